import Derived.Test.YtdecmmcphcomhaaQ9p
namespace Go.Proofs.Ytdecmmcphcomhaa.Brd
open Go.RowKit Gf8 Aes By8 Cel Cf Tap Drw Prm
/- Stage 12's BraidBack. Written by tools/mkQ9q.py. -/

/-- The cells of an Ask. -/
def akC (a b c d : Value) : Array Value := #[a, b, c, d]
section
variable {W : World} {g : Nat} {a b c d : Value} {t : TypeId}
theorem ak_at0 (h : W.heap[g]? = some (.cells (akC a b c d) t)) : W.cell? ⟨g, 0, none⟩ = some a := by rw [cell_of_row _ _ _ _ _ _ h]; rfl
theorem ak_at1 (h : W.heap[g]? = some (.cells (akC a b c d) t)) : W.cell? ⟨g, 1, none⟩ = some b := by rw [cell_of_row _ _ _ _ _ _ h]; rfl
theorem ak_at2 (h : W.heap[g]? = some (.cells (akC a b c d) t)) : W.cell? ⟨g, 2, none⟩ = some c := by rw [cell_of_row _ _ _ _ _ _ h]; rfl
theorem ak_at3 (h : W.heap[g]? = some (.cells (akC a b c d) t)) : W.cell? ⟨g, 3, none⟩ = some d := by rw [cell_of_row _ _ _ _ _ _ h]; rfl
end
section
variable {o : Oper} {a : Act} {w : World}
theorem execBoxAk {x : Operand} {p q r s : Value} (ho : o.op = .box 35 x) (hx : a.eval x = .agg (akC p q r s)) : (execOp a.eval o).run Try.prog w = .ok (.value (.pointer (some ⟨w.heap.size, 0, none⟩))) (w.alloc (.cells (akC p q r s) 35)) := by
  unfold execOp
  simp only [ho, hx]
  simp [go_sem, akC]
theorem execFldAk0 {x : Operand} {b : Nat} (ho : o.op = .fieldAddr 35 x 0) (hx : a.eval x = .pointer (some ⟨b, 0, none⟩)) : (execOp a.eval o).run Try.prog w = .ok (.value (.pointer (some ⟨b, 0, none⟩))) w := by
  unfold execOp
  simp only [ho, hx]
  simp [go_sem]
theorem execFldAk1 {x : Operand} {b : Nat} (ho : o.op = .fieldAddr 35 x 1) (hx : a.eval x = .pointer (some ⟨b, 0, none⟩)) : (execOp a.eval o).run Try.prog w = .ok (.value (.pointer (some ⟨b, 1, none⟩))) w := by
  unfold execOp
  simp only [ho, hx]
  simp [go_sem]
theorem execFldAk2 {x : Operand} {b : Nat} (ho : o.op = .fieldAddr 35 x 2) (hx : a.eval x = .pointer (some ⟨b, 0, none⟩)) : (execOp a.eval o).run Try.prog w = .ok (.value (.pointer (some ⟨b, 2, none⟩))) w := by
  unfold execOp
  simp only [ho, hx]
  simp [go_sem]
theorem execFldAk3 {x : Operand} {b : Nat} (ho : o.op = .fieldAddr 35 x 3) (hx : a.eval x = .pointer (some ⟨b, 0, none⟩)) : (execOp a.eval o).run Try.prog w = .ok (.value (.pointer (some ⟨b, 3, none⟩))) w := by
  unfold execOp
  simp only [ho, hx]
  simp [go_sem]
end
theorem open_sl {W : World} {v : Value} {n : Nat} {f : Nat → Int} (h : SliceI W v n f) (hn : 0 < n) : ∃ b o c, v = .slice (some ⟨b, o, none⟩) n c ∧ b < W.heap.size ∧ ∀ j, j < n → W.cell? ⟨b, o + j, none⟩ = some (.int .i64 (f j)) := by
  obtain ⟨a, c, rfl, _, _, hs⟩ := h.shape
  obtain ⟨b, o, rfl, h1, h2⟩ := hs hn
  exact ⟨b, o, c, rfl, h1, h2⟩
set_option maxRecDepth 100000 in
set_option maxHeartbeats 4000000 in
/-- BraidBack. -/
theorem back_any (sf df cf vf : Nat → Int) (J m n k : Nat) (v0 v1 v2 v3 : Value) (V : World) (FI : SliceI V v0 J sf) (hJ17 : J ≤ 17592186044416) (FF : SliceI V v1 m df) (hm17 : m ≤ 17592186044416) (FC : SliceI V v2 n cf) (hn17 : n ≤ 17592186044416) (FO : SliceI V v3 k vf) (hk17 : k ≤ 17592186044416) :
    Calls Try.prog 6 #[.agg (akC v0 v1 v2 v3)] V fun e w' => e = .returned (.bool true) ∧ Below V.heap.size V w' := by
  go_enter Try.func6, Try.ntmps6
  refine wp_open (fun a => (a.tmps.size = 152 ∧ a.defers = []) ∧ a.eval (.tmp 0) = .agg (akC v0 v1 v2 v3)) ⟨⟨rfl, rfl⟩, rfl⟩ ?_
  rintro a ⟨A, t0⟩
  have BW : Below V.heap.size V V := Below.refl _ _
  refine wp_seq ?_
  refine wp_region_sq (σ := Nat) 152 [(0, 1), (1, 2)] (fun j_ s X => match j_ with | 0 => Below V.heap.size V X | 1 => Below V.heap.size V X ∧ (X.heap[s]? = some (.cells (akC v0 v1 v2 v3) 35)) | _ => Below V.heap.size V X ∧ (X.heap[s]? = some (.cells (akC v0 v1 v2 v3) 35))) (fun s => fun i_ => match i_ with | 0 => .pointer (some ⟨s, 0, none⟩) | 1 => .bool false | _ => undef) 0 A.1 (by kernel_rfl) (by decide) (by decide) (Below.refl _ _) ?_ ?_
  · intro i_ hi_ s a X hf hv hn hS
    match i_, hi_ with
    | 0, _ =>
      refine stepV rfl rfl (execBoxAk rfl ((hf 0 (by decide)).trans t0)) ⟨X.heap.size, ⟨_, rfl, rfl⟩, ⟨(hS).trans (((belNew X _)).mono (hS).size), heapNew X _⟩, fun i hi => ?_⟩
      omega
    | 1, _ => exact stepV rfl rfl (execAsgB rfl rfl) ⟨s, ⟨_, rfl, rfl⟩, hS, fun _ _ => rfl⟩
    | k_ + 2, h_ => exact absurd h_ (by simp)
  rintro gq a X0 h1 h2 h3 h4 hS
  replace hS : Below V.heap.size V X0 ∧ (X0.heap[gq]? = some (.cells (akC v0 v1 v2 v3) 35)) := hS
  obtain ⟨bX, FQ⟩ := hS
  have t1 : a.eval (.tmp 1) = .pointer (some ⟨gq, 0, none⟩) := h4 0 _ rfl _ rfl
  replace FI := (FI.on bX)
  replace FF := (FF.on bX)
  replace FC := (FC.on bX)
  replace FO := (FO.on bX)
  have ZX0 := bX.size
  replace BW := BW.trans (bX.mono BW.size)
  clear bX
  replace A := (⟨h1, h2.trans A.2⟩ : a.tmps.size = 152 ∧ a.defers = [])
  clear h1 h2 h3 h4
  clear t0
  refine wp_seq ?_
  refine wp_seq ?_
  refine wp_region_sq (σ := Unit) 152 [(0, 16), (1, 17)] (fun j_ s X => match j_ with | 0 => Below X0.heap.size X0 X | 1 => Below X0.heap.size X0 X | _ => Below X0.heap.size X0 X) (fun s => fun i_ => match i_ with | 0 => .bool true | 1 => .bool false | _ => undef) () A.1 (by kernel_rfl) (by decide) (by decide) (Below.refl _ _) ?_ ?_
  · intro i_ hi_ s a X hf hv hn hS
    match i_, hi_ with
    | 0, _ => exact stepC rfl rfl (execCall0 Try.func9 (by kernel_rfl) (by kernel_rfl) rfl ) (awake12 X) fun e w' hh => ⟨_, hh.1, s, ⟨_, rfl, rfl⟩, (hS).trans ((hh.2).mono (hS).size), fun _ _ => rfl⟩
    | 1, _ => exact stepV rfl rfl (execNot8 rfl (hv 0 (by omega) _ rfl _ rfl)) ⟨s, ⟨_, rfl, rfl⟩, hS, fun _ _ => rfl⟩
    | k_ + 2, h_ => exact absurd h_ (by simp)
  rintro _ a X1 h1 h2 h3 h4 hS
  replace hS : Below X0.heap.size X0 X1 := hS
  have bX := hS
  clear hS
  replace t1 := (h3 1 (by decide)).trans t1
  have t17 : a.eval (.tmp 17) = .bool false := h4 1 _ rfl _ rfl
  replace FI := (FI.on bX)
  replace FF := (FF.on bX)
  replace FC := (FC.on bX)
  replace FO := (FO.on bX)
  replace FQ := (on9 FQ bX)
  have ZX1 := bX.size
  replace BW := BW.trans (bX.mono BW.size)
  clear bX
  replace A := (⟨h1, h2.trans A.2⟩ : a.tmps.size = 152 ∧ a.defers = [])
  clear h1 h2 h3 h4
  refine wp_cond_false t17 ?_
  refine wp_skip ?_
  clear t17
  refine wp_seq ?_
  refine wp_region_sq (σ := Value × Value) 152 [(0, 19), (1, 20), (2, 21), (3, 22), (4, 23), (5, 18), (6, 24), (7, 25), (8, 26), (9, 3), (10, 4), (11, 5)] (fun j_ s X => match j_ with | 0 => Below X1.heap.size X1 X | 1 => Below X1.heap.size X1 X | 2 => Below X1.heap.size X1 X | 3 => Below X1.heap.size X1 X | 4 => Below X1.heap.size X1 X | 5 => Below X1.heap.size X1 X ∧ (SliceI X s.1 (zl (paE sf J df m) m) (pcF sf J df)) ∧ (SliceI X s.2 (zl (paE sf J df m) m) (poF sf J df m)) | 6 => Below X1.heap.size X1 X ∧ (SliceI X s.1 (zl (paE sf J df m) m) (pcF sf J df)) ∧ (SliceI X s.2 (zl (paE sf J df m) m) (poF sf J df m)) | 7 => Below X1.heap.size X1 X ∧ (SliceI X s.1 (zl (paE sf J df m) m) (pcF sf J df)) ∧ (SliceI X s.2 (zl (paE sf J df m) m) (poF sf J df m)) | 8 => Below X1.heap.size X1 X ∧ (SliceI X s.1 (zl (paE sf J df m) m) (pcF sf J df)) ∧ (SliceI X s.2 (zl (paE sf J df m) m) (poF sf J df m)) | 9 => Below X1.heap.size X1 X ∧ (SliceI X s.1 (zl (paE sf J df m) m) (pcF sf J df)) ∧ (SliceI X s.2 (zl (paE sf J df m) m) (poF sf J df m)) | 10 => Below X1.heap.size X1 X ∧ (SliceI X s.1 (zl (paE sf J df m) m) (pcF sf J df)) ∧ (SliceI X s.2 (zl (paE sf J df m) m) (poF sf J df m)) | 11 => Below X1.heap.size X1 X ∧ (SliceI X s.1 (zl (paE sf J df m) m) (pcF sf J df)) ∧ (SliceI X s.2 (zl (paE sf J df m) m) (poF sf J df m)) | _ => Below X1.heap.size X1 X ∧ (SliceI X s.1 (zl (paE sf J df m) m) (pcF sf J df)) ∧ (SliceI X s.2 (zl (paE sf J df m) m) (poF sf J df m))) (fun s => fun i_ => match i_ with | 0 => .pointer (some ⟨gq, 0, none⟩) | 1 => v0 | 2 => .pointer (some ⟨gq, 1, none⟩) | 3 => v1 | 4 => .tuple #[s.1, s.2, .int .i64 ((paE sf J df m : Nat) : Int)] | 5 => .tuple #[s.1, s.2, .int .i64 ((paE sf J df m : Nat) : Int)] | 6 => s.1 | 7 => s.2 | 8 => .int .i64 ((paE sf J df m : Nat) : Int) | 9 => s.1 | 10 => s.2 | 11 => .int .i64 ((paE sf J df m : Nat) : Int) | _ => undef) (undef, undef) A.1 (by kernel_rfl) (by decide) (by decide) (Below.refl _ _) ?_ ?_
  · intro i_ hi_ s a X hf hv hn hS
    match i_, hi_ with
    | 0, _ => exact stepV rfl rfl (execFldAk0 rfl ((hf 1 (by decide)).trans t1)) ⟨s, ⟨_, rfl, rfl⟩, hS, fun _ _ => rfl⟩
    | 1, _ => exact stepV rfl rfl (execLdLI (v := v0) rfl (hv 0 (by omega) _ rfl _ rfl) (ak_at0 (on9 FQ hS))) ⟨s, ⟨_, rfl, rfl⟩, hS, fun _ _ => rfl⟩
    | 2, _ => exact stepV rfl rfl (execFldAk1 rfl ((hf 1 (by decide)).trans t1)) ⟨s, ⟨_, rfl, rfl⟩, hS, fun _ _ => rfl⟩
    | 3, _ => exact stepV rfl rfl (execLdLI (v := v1) rfl (hv 2 (by omega) _ rfl _ rfl) (ak_at1 (on9 FQ hS))) ⟨s, ⟨_, rfl, rfl⟩, hS, fun _ _ => rfl⟩
    | 4, _ =>
      refine stepC rfl rfl (execCall2 Try.func19 (by kernel_rfl) (by kernel_rfl) rfl (hv 1 (by omega) _ rfl _ rfl) (hv 3 (by omega) _ rfl _ rfl)) (ppattern sf df J m _ _ X (FI.on hS) (by omega) (FF.on hS) (by omega)) fun e w' hh => ?_
      obtain ⟨r0_, r1_, he, hk, hb⟩ := hh
      refine ⟨_, he, (r0_, r1_), ⟨_, rfl, rfl⟩, ⟨(hS).trans ((hb).mono (hS).size), own_ints (hk.rows 0 (by omega)) (pc_fits (by omega)), own_ints (hk.rows 1 (by omega)) (po_fits ((FF.on hS)).fits)⟩, fun i hi => ?_⟩
      match i, hi with
      | 0, _ => rfl
      | 1, _ => rfl
      | 2, _ => rfl
      | 3, _ => rfl
      | n_ + 4, h_ => omega
    | 5, _ => exact stepV rfl rfl (execMvB rfl (hv 4 (by omega) _ rfl _ rfl)) ⟨s, ⟨_, rfl, rfl⟩, hS, fun _ _ => rfl⟩
    | 6, _ => exact stepV rfl rfl (execExtT rfl (hv 5 (by omega) _ rfl _ rfl) rfl) ⟨s, ⟨_, rfl, rfl⟩, hS, fun _ _ => rfl⟩
    | 7, _ => exact stepV rfl rfl (execExtT rfl (hv 5 (by omega) _ rfl _ rfl) rfl) ⟨s, ⟨_, rfl, rfl⟩, hS, fun _ _ => rfl⟩
    | 8, _ => exact stepV rfl rfl (execExtT rfl (hv 5 (by omega) _ rfl _ rfl) rfl) ⟨s, ⟨_, rfl, rfl⟩, hS, fun _ _ => rfl⟩
    | 9, _ => exact stepV rfl rfl (execAsgB rfl (hv 6 (by omega) _ rfl _ rfl)) ⟨s, ⟨_, rfl, rfl⟩, hS, fun _ _ => rfl⟩
    | 10, _ => exact stepV rfl rfl (execAsgB rfl (hv 7 (by omega) _ rfl _ rfl)) ⟨s, ⟨_, rfl, rfl⟩, hS, fun _ _ => rfl⟩
    | 11, _ => exact stepV rfl rfl (execAsgB rfl (hv 8 (by omega) _ rfl _ rfl)) ⟨s, ⟨_, rfl, rfl⟩, hS, fun _ _ => rfl⟩
    | k_ + 12, h_ => exact absurd h_ (by simp)
  rintro ⟨a23, o23⟩ a X3 h1 h2 h3 h4 hS
  replace hS : Below X1.heap.size X1 X3 ∧ (SliceI X3 a23 (zl (paE sf J df m) m) (pcF sf J df)) ∧ (SliceI X3 o23 (zl (paE sf J df m) m) (poF sf J df m)) := hS
  obtain ⟨bX, Fa23, Fo23⟩ := hS
  replace t1 := (h3 1 (by decide)).trans t1
  have t3 : a.eval (.tmp 3) = a23 := h4 9 _ rfl _ rfl
  have t4 : a.eval (.tmp 4) = o23 := h4 10 _ rfl _ rfl
  have t5 : a.eval (.tmp 5) = .int .i64 ((paE sf J df m : Nat) : Int) := h4 11 _ rfl _ rfl
  replace FI := (FI.on bX)
  replace FF := (FF.on bX)
  replace FC := (FC.on bX)
  replace FO := (FO.on bX)
  replace FQ := (on9 FQ bX)
  have ZX3 := bX.size
  replace BW := BW.trans (bX.mono BW.size)
  clear bX
  replace A := (⟨h1, h2.trans A.2⟩ : a.tmps.size = 152 ∧ a.defers = [])
  clear h1 h2 h3 h4
  by_cases h1 : paQ sf J df m = true
  · rw [paE_ok h1] at t5
    replace Fa23 : (SliceI X3 a23 (m) (pcF sf J df)) := (by have h_ := Fa23; rw [paE_ok h1, zl_ok] at h_; exact h_)
    replace Fo23 : (SliceI X3 o23 (m) (poF sf J df m)) := (by have h_ := Fo23; rw [paE_ok h1, zl_ok] at h_; exact h_)
    refine wp_seq ?_
    refine wp_seq ?_
    refine wp_region_sq (σ := Unit) 152 [(0, 27), (1, 28)] (fun j_ s X => match j_ with | 0 => Below X3.heap.size X3 X | 1 => Below X3.heap.size X3 X | _ => Below X3.heap.size X3 X) (fun s => fun i_ => match i_ with | 0 => .int .i64 ((0 : Nat) : Int) | 1 => .bool true | _ => undef) () A.1 (by kernel_rfl) (by decide) (by decide) (Below.refl _ _) ?_ ?_
    · intro i_ hi_ s a X hf hv hn hS
      match i_, hi_ with
      | 0, _ => exact stepV rfl rfl (execMvB rfl ((hf 5 (by decide)).trans t5)) ⟨s, ⟨_, rfl, rfl⟩, hS, fun _ _ => rfl⟩
      | 1, _ => exact stepV rfl rfl (execDec (execEqE (p := 0) (q := 0) rfl (hv 0 (by omega) _ rfl _ rfl) rfl) (decide_eq_true (by decide))) ⟨s, ⟨_, rfl, rfl⟩, hS, fun _ _ => rfl⟩
      | k_ + 2, h_ => exact absurd h_ (by simp)
    rintro _ a X4 h1 h2 h3 h4 hS
    replace hS : Below X3.heap.size X3 X4 := hS
    have bX := hS
    clear hS
    replace t1 := (h3 1 (by decide)).trans t1
    replace t3 := (h3 3 (by decide)).trans t3
    replace t4 := (h3 4 (by decide)).trans t4
    replace t5 := (h3 5 (by decide)).trans t5
    have t28 : a.eval (.tmp 28) = .bool true := h4 1 _ rfl _ rfl
    replace FI := (FI.on bX)
    replace FF := (FF.on bX)
    replace FC := (FC.on bX)
    replace FO := (FO.on bX)
    replace FQ := (on9 FQ bX)
    replace Fa23 := (Fa23.on bX)
    replace Fo23 := (Fo23.on bX)
    have ZX4 := bX.size
    replace BW := BW.trans (bX.mono BW.size)
    clear bX
    replace A := (⟨h1, h2.trans A.2⟩ : a.tmps.size = 152 ∧ a.defers = [])
    clear h1 h2 h3 h4
    refine wp_cond_true t28 ?_
    clear t28
    have hc1 := carry h1 h1
    obtain ⟨hsm, hDr⟩ := pa_draws h1
    have hpt := chD_pat hsm hDr
    have hok := (szQ_iff.1 (paQ_iff.1 h1).1).2
    have hJ64 := (szQ_iff.1 (paQ_iff.1 h1).1).1.2
    have hsum := okS_sum hok
    refine wp_seq ?_
    refine wp_region_sq (σ := Value) 152 [(0, 30), (1, 31), (2, 32), (3, 33), (4, 34), (5, 29), (6, 35), (7, 36), (8, 6), (9, 7)] (fun j_ s X => match j_ with | 0 => Below X4.heap.size X4 X | 1 => Below X4.heap.size X4 X | 2 => Below X4.heap.size X4 X | 3 => Below X4.heap.size X4 X | 4 => Below X4.heap.size X4 X | 5 => Below X4.heap.size X4 X ∧ (SliceI X s (zl (drE sf J (pcF sf J df) m (poF sf J df m) m) m) (dwF sf (pcF sf J df) (poF sf J df m))) | 6 => Below X4.heap.size X4 X ∧ (SliceI X s (zl (drE sf J (pcF sf J df) m (poF sf J df m) m) m) (dwF sf (pcF sf J df) (poF sf J df m))) | 7 => Below X4.heap.size X4 X ∧ (SliceI X s (zl (drE sf J (pcF sf J df) m (poF sf J df m) m) m) (dwF sf (pcF sf J df) (poF sf J df m))) | 8 => Below X4.heap.size X4 X ∧ (SliceI X s (zl (drE sf J (pcF sf J df) m (poF sf J df m) m) m) (dwF sf (pcF sf J df) (poF sf J df m))) | 9 => Below X4.heap.size X4 X ∧ (SliceI X s (zl (drE sf J (pcF sf J df) m (poF sf J df m) m) m) (dwF sf (pcF sf J df) (poF sf J df m))) | _ => Below X4.heap.size X4 X ∧ (SliceI X s (zl (drE sf J (pcF sf J df) m (poF sf J df m) m) m) (dwF sf (pcF sf J df) (poF sf J df m)))) (fun s => fun i_ => match i_ with | 0 => .pointer (some ⟨gq, 0, none⟩) | 1 => v0 | 2 => a23 | 3 => o23 | 4 => .tuple #[s, .int .i64 ((drE sf J (pcF sf J df) m (poF sf J df m) m : Nat) : Int)] | 5 => .tuple #[s, .int .i64 ((drE sf J (pcF sf J df) m (poF sf J df m) m : Nat) : Int)] | 6 => s | 7 => .int .i64 ((drE sf J (pcF sf J df) m (poF sf J df m) m : Nat) : Int) | 8 => s | 9 => .int .i64 ((drE sf J (pcF sf J df) m (poF sf J df m) m : Nat) : Int) | _ => undef) undef A.1 (by kernel_rfl) (by decide) (by decide) (Below.refl _ _) ?_ ?_
    · intro i_ hi_ s a X hf hv hn hS
      match i_, hi_ with
      | 0, _ => exact stepV rfl rfl (execFldAk0 rfl ((hf 1 (by decide)).trans t1)) ⟨s, ⟨_, rfl, rfl⟩, hS, fun _ _ => rfl⟩
      | 1, _ => exact stepV rfl rfl (execLdLI (v := v0) rfl (hv 0 (by omega) _ rfl _ rfl) (ak_at0 (on9 FQ hS))) ⟨s, ⟨_, rfl, rfl⟩, hS, fun _ _ => rfl⟩
      | 2, _ => exact stepV rfl rfl (execMvB rfl ((hf 3 (by decide)).trans t3)) ⟨s, ⟨_, rfl, rfl⟩, hS, fun _ _ => rfl⟩
      | 3, _ => exact stepV rfl rfl (execMvB rfl ((hf 4 (by decide)).trans t4)) ⟨s, ⟨_, rfl, rfl⟩, hS, fun _ _ => rfl⟩
      | 4, _ =>
        refine stepC rfl rfl (execCall3 Try.func20 (by kernel_rfl) (by kernel_rfl) rfl (hv 1 (by omega) _ rfl _ rfl) (hv 2 (by omega) _ rfl _ rfl) (hv 3 (by omega) _ rfl _ rfl)) (pdraws12 sf (pcF sf J df) (poF sf J df m) J m m _ _ _ X (FI.on hS) (by omega) (Fa23.on hS) (by omega) (Fo23.on hS)) fun e w' hh => ?_
        obtain ⟨r0_, he, hk, hb⟩ := hh
        refine ⟨_, he, r0_, ⟨_, rfl, rfl⟩, ⟨(hS).trans ((hb).mono (hS).size), own_ints hk (dw_fits (by omega))⟩, fun i hi => ?_⟩
        match i, hi with
        | 0, _ => rfl
        | 1, _ => rfl
        | 2, _ => rfl
        | 3, _ => rfl
        | n_ + 4, h_ => omega
      | 5, _ => exact stepV rfl rfl (execMvB rfl (hv 4 (by omega) _ rfl _ rfl)) ⟨s, ⟨_, rfl, rfl⟩, hS, fun _ _ => rfl⟩
      | 6, _ => exact stepV rfl rfl (execExtT rfl (hv 5 (by omega) _ rfl _ rfl) rfl) ⟨s, ⟨_, rfl, rfl⟩, hS, fun _ _ => rfl⟩
      | 7, _ => exact stepV rfl rfl (execExtT rfl (hv 5 (by omega) _ rfl _ rfl) rfl) ⟨s, ⟨_, rfl, rfl⟩, hS, fun _ _ => rfl⟩
      | 8, _ => exact stepV rfl rfl (execAsgB rfl (hv 6 (by omega) _ rfl _ rfl)) ⟨s, ⟨_, rfl, rfl⟩, hS, fun _ _ => rfl⟩
      | 9, _ => exact stepV rfl rfl (execAsgB rfl (hv 7 (by omega) _ rfl _ rfl)) ⟨s, ⟨_, rfl, rfl⟩, hS, fun _ _ => rfl⟩
      | k_ + 10, h_ => exact absurd h_ (by simp)
    rintro d34 a X5 h1 h2 h3 h4 hS
    replace hS : Below X4.heap.size X4 X5 ∧ (SliceI X5 d34 (zl (drE sf J (pcF sf J df) m (poF sf J df m) m) m) (dwF sf (pcF sf J df) (poF sf J df m))) := hS
    obtain ⟨bX, Fd34⟩ := hS
    replace t1 := (h3 1 (by decide)).trans t1
    replace t3 := (h3 3 (by decide)).trans t3
    replace t4 := (h3 4 (by decide)).trans t4
    replace t5 := (h3 5 (by decide)).trans t5
    have t6 : a.eval (.tmp 6) = d34 := h4 8 _ rfl _ rfl
    have t7 : a.eval (.tmp 7) = .int .i64 ((drE sf J (pcF sf J df) m (poF sf J df m) m : Nat) : Int) := h4 9 _ rfl _ rfl
    replace FI := (FI.on bX)
    replace FF := (FF.on bX)
    replace FC := (FC.on bX)
    replace FO := (FO.on bX)
    replace FQ := (on9 FQ bX)
    replace Fa23 := (Fa23.on bX)
    replace Fo23 := (Fo23.on bX)
    have ZX5 := bX.size
    replace BW := BW.trans (bX.mono BW.size)
    clear bX
    replace A := (⟨h1, h2.trans A.2⟩ : a.tmps.size = 152 ∧ a.defers = [])
    clear h1 h2 h3 h4
    rw [drE_ok hc1] at t7
    replace Fd34 : (SliceI X5 d34 (m) (dwF sf (pcF sf J df) (poF sf J df m))) := (by have h_ := Fd34; rw [drE_ok hc1, zl_ok] at h_; exact h_)
    refine wp_seq ?_
    refine wp_seq ?_
    refine wp_region_sq (σ := Unit) 152 [(0, 37), (1, 38), (2, 39), (3, 40), (4, 41), (5, 42), (6, 43), (7, 44), (8, 45), (9, 46), (10, 47), (11, 48), (12, 49), (13, 50), (14, 51), (15, 52), (16, 53)] (fun j_ s X => match j_ with | 0 => Below X5.heap.size X5 X | 1 => Below X5.heap.size X5 X | 2 => Below X5.heap.size X5 X | 3 => Below X5.heap.size X5 X | 4 => Below X5.heap.size X5 X | 5 => Below X5.heap.size X5 X | 6 => Below X5.heap.size X5 X | 7 => Below X5.heap.size X5 X | 8 => Below X5.heap.size X5 X | 9 => Below X5.heap.size X5 X | 10 => Below X5.heap.size X5 X | 11 => Below X5.heap.size X5 X | 12 => Below X5.heap.size X5 X | 13 => Below X5.heap.size X5 X | 14 => Below X5.heap.size X5 X | 15 => Below X5.heap.size X5 X | 16 => Below X5.heap.size X5 X | _ => Below X5.heap.size X5 X) (fun s => fun i_ => match i_ with | 0 => .int .i64 ((0 : Nat) : Int) | 1 => .bool false | 2 => .bool false | 3 => d34 | 4 => .pointer (some ⟨gq, 1, none⟩) | 5 => v1 | 6 => .bool true | 7 => .bool false | 8 => .bool false | 9 => .bool false | 10 => a23 | 11 => .int .i64 ((m : Nat) : Int) | 12 => .pointer (some ⟨gq, 1, none⟩) | 13 => v1 | 14 => .int .i64 ((m : Nat) : Int) | 15 => .bool false | 16 => .bool false | _ => undef) () A.1 (by kernel_rfl) (by decide) (by decide) (Below.refl _ _) ?_ ?_
    · intro i_ hi_ s a X hf hv hn hS
      match i_, hi_ with
      | 0, _ => exact stepV rfl rfl (execMvB rfl ((hf 7 (by decide)).trans t7)) ⟨s, ⟨_, rfl, rfl⟩, hS, fun _ _ => rfl⟩
      | 1, _ => exact stepV rfl rfl (execDec (execNeE (p := 0) (q := 0) rfl (hv 0 (by omega) _ rfl _ rfl) rfl) (decide_eq_false (by omega))) ⟨s, ⟨_, rfl, rfl⟩, hS, fun _ _ => rfl⟩
      | 2, _ => exact stepV rfl rfl (execMvB rfl (hv 1 (by omega) _ rfl _ rfl)) ⟨s, ⟨_, rfl, rfl⟩, hS, fun _ _ => rfl⟩
      | 3, _ => exact stepV rfl (wantedOf rfl (yieldedAt rfl rfl (show a.eval (.tmp 39) = .bool false from (hv 2 (by omega) _ rfl _ rfl)))) (execMvB rfl ((hf 6 (by decide)).trans t6)) ⟨s, ⟨_, rfl, rfl⟩, hS, fun _ _ => rfl⟩
      | 4, _ => exact stepV rfl (wantedOf rfl (yieldedAt rfl rfl (show a.eval (.tmp 39) = .bool false from (hv 2 (by omega) _ rfl _ rfl)))) (execFldAk1 rfl ((hf 1 (by decide)).trans t1)) ⟨s, ⟨_, rfl, rfl⟩, hS, fun _ _ => rfl⟩
      | 5, _ => exact stepV rfl (wantedOf rfl (yieldedAt rfl rfl (show a.eval (.tmp 39) = .bool false from (hv 2 (by omega) _ rfl _ rfl)))) (execLdLI (v := v1) rfl (hv 4 (by omega) _ rfl _ rfl) (ak_at1 (on9 FQ hS))) ⟨s, ⟨_, rfl, rfl⟩, hS, fun _ _ => rfl⟩
      | 6, _ => exact stepC rfl (wantedOf rfl (yieldedAt rfl rfl (show a.eval (.tmp 39) = .bool false from (hv 2 (by omega) _ rfl _ rfl)))) (execCall2 Try.func14 (by kernel_rfl) (by kernel_rfl) rfl (hv 3 (by omega) _ rfl _ rfl) (hv 5 (by omega) _ rfl _ rfl)) (same_t _ _ (m) _ _ X (Fd34.on hS) (FF.on hS) (fun i hi => back_dr h1 hi) (by omega)) fun e w' hh => ⟨_, hh.1, s, ⟨_, rfl, rfl⟩, (hS).trans ((hh.2).mono (hS).size), fun _ _ => rfl⟩
      | 7, _ => exact stepV rfl (wantedOf rfl (yieldedAt rfl rfl (show a.eval (.tmp 39) = .bool false from (hv 2 (by omega) _ rfl _ rfl)))) (execNot8 rfl (hv 6 (by omega) _ rfl _ rfl)) ⟨s, ⟨_, rfl, rfl⟩, hS, fun _ _ => rfl⟩
      | 8, _ => exact stepV rfl rfl (execPickF rfl (hv 2 (by omega) _ rfl _ rfl) (hv 7 (by omega) _ rfl _ rfl)) ⟨s, ⟨_, rfl, rfl⟩, hS, fun _ _ => rfl⟩
      | 9, _ => exact stepV rfl rfl (execMvB rfl (hv 8 (by omega) _ rfl _ rfl)) ⟨s, ⟨_, rfl, rfl⟩, hS, fun _ _ => rfl⟩
      | 10, _ => exact stepV rfl (wantedOf rfl (yieldedAt rfl rfl (show a.eval (.tmp 46) = .bool false from (hv 9 (by omega) _ rfl _ rfl)))) (execMvB rfl ((hf 3 (by decide)).trans t3)) ⟨s, ⟨_, rfl, rfl⟩, hS, fun _ _ => rfl⟩
      | 11, _ => exact stepV rfl (wantedOf rfl (yieldedAt rfl rfl (show a.eval (.tmp 46) = .bool false from (hv 9 (by omega) _ rfl _ rfl)))) (execLenI (len := m) rfl (hv 10 (by omega) _ rfl _ rfl) ((Fa23.on hS)).shp) ⟨s, ⟨_, rfl, rfl⟩, hS, fun _ _ => rfl⟩
      | 12, _ => exact stepV rfl (wantedOf rfl (yieldedAt rfl rfl (show a.eval (.tmp 46) = .bool false from (hv 9 (by omega) _ rfl _ rfl)))) (execFldAk1 rfl ((hf 1 (by decide)).trans t1)) ⟨s, ⟨_, rfl, rfl⟩, hS, fun _ _ => rfl⟩
      | 13, _ => exact stepV rfl (wantedOf rfl (yieldedAt rfl rfl (show a.eval (.tmp 46) = .bool false from (hv 9 (by omega) _ rfl _ rfl)))) (execLdLI (v := v1) rfl (hv 12 (by omega) _ rfl _ rfl) (ak_at1 (on9 FQ hS))) ⟨s, ⟨_, rfl, rfl⟩, hS, fun _ _ => rfl⟩
      | 14, _ => exact stepV rfl (wantedOf rfl (yieldedAt rfl rfl (show a.eval (.tmp 46) = .bool false from (hv 9 (by omega) _ rfl _ rfl)))) (execLenI (len := m) rfl (hv 13 (by omega) _ rfl _ rfl) ((FF.on hS)).shp) ⟨s, ⟨_, rfl, rfl⟩, hS, fun _ _ => rfl⟩
      | 15, _ => exact stepV rfl (wantedOf rfl (yieldedAt rfl rfl (show a.eval (.tmp 46) = .bool false from (hv 9 (by omega) _ rfl _ rfl)))) (execDec (execNeN (p := m) (q := m) rfl (hv 11 (by omega) _ rfl _ rfl) (hv 14 (by omega) _ rfl _ rfl)) (decide_eq_false (by omega))) ⟨s, ⟨_, rfl, rfl⟩, hS, fun _ _ => rfl⟩
      | 16, _ => exact stepV rfl rfl (execPickF rfl (hv 9 (by omega) _ rfl _ rfl) (hv 15 (by omega) _ rfl _ rfl)) ⟨s, ⟨_, rfl, rfl⟩, hS, fun _ _ => rfl⟩
      | k_ + 17, h_ => exact absurd h_ (by simp)
    rintro _ a X6 h1 h2 h3 h4 hS
    replace hS : Below X5.heap.size X5 X6 := hS
    have bX := hS
    clear hS
    replace t1 := (h3 1 (by decide)).trans t1
    replace t3 := (h3 3 (by decide)).trans t3
    replace t4 := (h3 4 (by decide)).trans t4
    replace t5 := (h3 5 (by decide)).trans t5
    have t53 : a.eval (.tmp 53) = .bool false := h4 16 _ rfl _ rfl
    replace FI := (FI.on bX)
    replace FF := (FF.on bX)
    replace FC := (FC.on bX)
    replace FO := (FO.on bX)
    replace FQ := (on9 FQ bX)
    replace Fa23 := (Fa23.on bX)
    replace Fo23 := (Fo23.on bX)
    replace Fd34 := (Fd34.on bX)
    have ZX6 := bX.size
    replace BW := BW.trans (bX.mono BW.size)
    clear bX
    replace A := (⟨h1, h2.trans A.2⟩ : a.tmps.size = 152 ∧ a.defers = [])
    clear h1 h2 h3 h4
    clear t6 t7
    refine wp_cond_false t53 ?_
    refine wp_skip ?_
    clear t53
    clear Fd34
    refine wp_seq ?_
    refine wp_region_sq (σ := Unit) 152 [(0, 54), (1, 55), (2, 56), (3, 57)] (fun j_ s X => match j_ with | 0 => Below X6.heap.size X6 X | 1 => Below X6.heap.size X6 X | 2 => Below X6.heap.size X6 X | 3 => Below X6.heap.size X6 X | _ => Below X6.heap.size X6 X) (fun s => fun i_ => match i_ with | 0 => .pointer (some ⟨gq, 0, none⟩) | 1 => v0 | 2 => .int .i64 ((J : Nat) : Int) | 3 => .int .i64 ((0 : Nat) : Int) | _ => undef) () A.1 (by kernel_rfl) (by decide) (by decide) (Below.refl _ _) ?_ ?_
    · intro i_ hi_ s a X hf hv hn hS
      match i_, hi_ with
      | 0, _ => exact stepV rfl rfl (execFldAk0 rfl ((hf 1 (by decide)).trans t1)) ⟨s, ⟨_, rfl, rfl⟩, hS, fun _ _ => rfl⟩
      | 1, _ => exact stepV rfl rfl (execLdLI (v := v0) rfl (hv 0 (by omega) _ rfl _ rfl) (ak_at0 (on9 FQ hS))) ⟨s, ⟨_, rfl, rfl⟩, hS, fun _ _ => rfl⟩
      | 2, _ => exact stepV rfl rfl (execLenI (len := J) rfl (hv 1 (by omega) _ rfl _ rfl) ((FI.on hS)).shp) ⟨s, ⟨_, rfl, rfl⟩, hS, fun _ _ => rfl⟩
      | 3, _ => exact stepV rfl rfl (execMvB rfl rfl) ⟨s, ⟨_, rfl, rfl⟩, hS, fun _ _ => rfl⟩
      | k_ + 4, h_ => exact absurd h_ (by simp)
    rintro _ a X8 h1 h2 h3 h4 hS
    replace hS : Below X6.heap.size X6 X8 := hS
    have bX := hS
    clear hS
    replace t1 := (h3 1 (by decide)).trans t1
    replace t3 := (h3 3 (by decide)).trans t3
    replace t4 := (h3 4 (by decide)).trans t4
    replace t5 := (h3 5 (by decide)).trans t5
    have t55 : a.eval (.tmp 55) = v0 := h4 1 _ rfl _ rfl
    have t56 : a.eval (.tmp 56) = .int .i64 ((J : Nat) : Int) := h4 2 _ rfl _ rfl
    have t57 : a.eval (.tmp 57) = .int .i64 ((0 : Nat) : Int) := h4 3 _ rfl _ rfl
    replace FI := (FI.on bX)
    replace FF := (FF.on bX)
    replace FC := (FC.on bX)
    replace FO := (FO.on bX)
    replace FQ := (on9 FQ bX)
    replace Fa23 := (Fa23.on bX)
    replace Fo23 := (Fo23.on bX)
    have ZX8 := bX.size
    replace BW := BW.trans (bX.mono BW.size)
    clear bX
    replace A := (⟨h1, h2.trans A.2⟩ : a.tmps.size = 152 ∧ a.defers = [])
    clear h1 h2 h3 h4
    have BB : Below X8.heap.size X8 X8 := Below.refl _ _
    refine wp_block ?_
    refine wp_loop (fun a W => ∃ (j : Nat), j ≤ J ∧ (a.tmps.size = 152 ∧ a.defers = []) ∧ a.eval (.tmp 1) = .pointer (some ⟨gq, 0, none⟩) ∧ a.eval (.tmp 3) = a23 ∧ a.eval (.tmp 4) = o23 ∧ a.eval (.tmp 5) = .int .i64 ((0 : Nat) : Int) ∧ a.eval (.tmp 55) = v0 ∧ a.eval (.tmp 56) = .int .i64 ((J : Nat) : Int) ∧ a.eval (.tmp 57) = .int .i64 ((j : Nat) : Int) ∧ Below X8.heap.size X8 W) (fun a _ => J - (intOf (a.eval (.tmp 57))).toNat) ⟨0, Nat.zero_le _, A, t1, t3, t4, t5, t55, t56, t57, BB⟩ ?_
    clear A t1 t3 t4 t5 t55 t56 t57 BB a
    rintro a XL9 ⟨j, hj, A, t1, t3, t4, t5, t55, t56, t57, BB⟩
    have esj := t57
    refine wp_seq ?_
    refine wp_region_sq (σ := Unit) 152 [(0, 58)] (fun j_ s X => match j_ with | 0 => Below X8.heap.size X8 X | _ => Below X8.heap.size X8 X) (fun s => fun i_ => match i_ with | 0 => .bool (decide (j < J)) | _ => undef) () A.1 (by kernel_rfl) (by decide) (by decide) (BB) ?_ ?_
    · intro i_ hi_ s a X hf hv hn hS
      match i_, hi_ with
      | 0, _ => exact stepV rfl rfl (execLtW (p := j) (q := J) rfl ((hf 57 (by decide)).trans t57) ((hf 56 (by decide)).trans t56)) ⟨s, ⟨_, rfl, rfl⟩, hS, fun _ _ => rfl⟩
      | k_ + 1, h_ => exact absurd h_ (by simp)
    rintro _ a X9 h1 h2 h3 h4 hS
    clear BB
    replace hS : Below X8.heap.size X8 X9 := hS
    have BB := hS
    clear hS
    replace t1 := (h3 1 (by decide)).trans t1
    replace t3 := (h3 3 (by decide)).trans t3
    replace t4 := (h3 4 (by decide)).trans t4
    replace t5 := (h3 5 (by decide)).trans t5
    replace t55 := (h3 55 (by decide)).trans t55
    replace t56 := (h3 56 (by decide)).trans t56
    replace t57 := (h3 57 (by decide)).trans t57
    have t58 : a.eval (.tmp 58) = .bool (decide (j < J)) := h4 0 _ rfl _ rfl
    replace A := (⟨h1, h2.trans A.2⟩ : a.tmps.size = 152 ∧ a.defers = [])
    clear h1 h2 h3 h4
    refine wp_seq ?_
    by_cases ltj : j < J
    · rw [decide_eq_true ltj] at t58
      refine wp_cond_true t58 ?_
      refine wp_skip ?_
      clear t58
      refine wp_seq ?_
      refine wp_block ?_
      obtain ⟨ssb, sso, ssc, ess, hssb, hssc⟩ := open_sl FI (by omega)
      have css : ∀ k, k < J → ∀ X, Below X8.heap.size X8 X → X.cell? ⟨ssb, sso + k, none⟩ = some (.int .i64 ((sf) k)) := fun k hk X hX => by rw [cell_below hX hssb]; exact hssc k hk
      have hj0 : lefC (gN sf) (chD (gN sf) J (gN df)) 0 j = gN sf j := rfl
      have hsj := okS_nn hok ltj
      have hsa := sumN_at (r := gN sf) ltj
      refine wp_seq ?_
      refine wp_region_sq (σ := Unit) 152 [(0, 59), (1, 60), (2, 61), (3, 8), (4, 9)] (fun j_ s X => match j_ with | 0 => Below X8.heap.size X8 X | 1 => Below X8.heap.size X8 X | 2 => Below X8.heap.size X8 X | 3 => Below X8.heap.size X8 X | 4 => Below X8.heap.size X8 X | _ => Below X8.heap.size X8 X) (fun s => fun i_ => match i_ with | 0 => .int .i64 ((j : Nat) : Int) | 1 => .pointer (some ⟨ssb, sso + j, none⟩) | 2 => .int .i64 ((lefC (gN sf) (chD (gN sf) J (gN df)) 0 j : Nat) : Int) | 3 => .int .i64 ((j : Nat) : Int) | 4 => .int .i64 ((lefC (gN sf) (chD (gN sf) J (gN df)) 0 j : Nat) : Int) | _ => undef) () A.1 (by kernel_rfl) (by decide) (by decide) (BB) ?_ ?_
      · intro i_ hi_ s a X hf hv hn hS
        match i_, hi_ with
        | 0, _ => exact stepV rfl rfl (execMvB rfl ((hf 57 (by decide)).trans t57)) ⟨s, ⟨_, rfl, rfl⟩, hS, fun _ _ => rfl⟩
        | 1, _ => exact stepV rfl rfl (execIdxN (k := j) rfl (((hf 55 (by decide)).trans t55).trans ess) ((hf 57 (by decide)).trans t57) ltj) ⟨s, ⟨_, rfl, rfl⟩, hS, fun _ _ => rfl⟩
        | 2, _ => exact stepV rfl rfl (execLd3 rfl (hv 1 (by omega) _ rfl _ rfl) ((css j ltj X hS).trans (by rw [hsj]; rfl))) ⟨s, ⟨_, rfl, rfl⟩, hS, fun _ _ => rfl⟩
        | 3, _ => exact stepV rfl rfl (execAsgB rfl (hv 0 (by omega) _ rfl _ rfl)) ⟨s, ⟨_, rfl, rfl⟩, hS, fun _ _ => rfl⟩
        | 4, _ => exact stepV rfl rfl (execAsgB rfl (hv 2 (by omega) _ rfl _ rfl)) ⟨s, ⟨_, rfl, rfl⟩, hS, fun _ _ => rfl⟩
        | k_ + 5, h_ => exact absurd h_ (by simp)
      rintro _ a X10 h1 h2 h3 h4 hS
      clear BB
      replace hS : Below X8.heap.size X8 X10 := hS
      have BB := hS
      clear hS
      replace t1 := (h3 1 (by decide)).trans t1
      replace t3 := (h3 3 (by decide)).trans t3
      replace t4 := (h3 4 (by decide)).trans t4
      replace t5 := (h3 5 (by decide)).trans t5
      replace t55 := (h3 55 (by decide)).trans t55
      replace t56 := (h3 56 (by decide)).trans t56
      replace t57 := (h3 57 (by decide)).trans t57
      have t8 : a.eval (.tmp 8) = .int .i64 ((j : Nat) : Int) := h4 3 _ rfl _ rfl
      have t9 : a.eval (.tmp 9) = .int .i64 ((lefC (gN sf) (chD (gN sf) J (gN df)) 0 j : Nat) : Int) := h4 4 _ rfl _ rfl
      replace A := (⟨h1, h2.trans A.2⟩ : a.tmps.size = 152 ∧ a.defers = [])
      clear h1 h2 h3 h4
      refine wp_seq ?_
      refine wp_seq ?_
      refine wp_region_sq (σ := Unit) 152 [(0, 62), (1, 63), (2, 64)] (fun j_ s X => match j_ with | 0 => Below X8.heap.size X8 X | 1 => Below X8.heap.size X8 X | 2 => Below X8.heap.size X8 X | _ => Below X8.heap.size X8 X) (fun s => fun i_ => match i_ with | 0 => a23 | 1 => .int .i64 ((m : Nat) : Int) | 2 => .int .i64 ((0 : Nat) : Int) | _ => undef) () A.1 (by kernel_rfl) (by decide) (by decide) (BB) ?_ ?_
      · intro i_ hi_ s a X hf hv hn hS
        match i_, hi_ with
        | 0, _ => exact stepV rfl rfl (execMvB rfl ((hf 3 (by decide)).trans t3)) ⟨s, ⟨_, rfl, rfl⟩, hS, fun _ _ => rfl⟩
        | 1, _ => exact stepV rfl rfl (execLenI (len := m) rfl (hv 0 (by omega) _ rfl _ rfl) ((Fa23.on hS)).shp) ⟨s, ⟨_, rfl, rfl⟩, hS, fun _ _ => rfl⟩
        | 2, _ => exact stepV rfl rfl (execMvB rfl rfl) ⟨s, ⟨_, rfl, rfl⟩, hS, fun _ _ => rfl⟩
        | k_ + 3, h_ => exact absurd h_ (by simp)
      rintro _ a X11 h1 h2 h3 h4 hS
      clear BB
      replace hS : Below X8.heap.size X8 X11 := hS
      have BB := hS
      clear hS
      replace t1 := (h3 1 (by decide)).trans t1
      replace t3 := (h3 3 (by decide)).trans t3
      replace t4 := (h3 4 (by decide)).trans t4
      replace t5 := (h3 5 (by decide)).trans t5
      replace t55 := (h3 55 (by decide)).trans t55
      replace t56 := (h3 56 (by decide)).trans t56
      replace t57 := (h3 57 (by decide)).trans t57
      replace t8 := (h3 8 (by decide)).trans t8
      replace t9 := (h3 9 (by decide)).trans t9
      have t62 : a.eval (.tmp 62) = a23 := h4 0 _ rfl _ rfl
      have t63 : a.eval (.tmp 63) = .int .i64 ((m : Nat) : Int) := h4 1 _ rfl _ rfl
      have t64 : a.eval (.tmp 64) = .int .i64 ((0 : Nat) : Int) := h4 2 _ rfl _ rfl
      replace A := (⟨h1, h2.trans A.2⟩ : a.tmps.size = 152 ∧ a.defers = [])
      clear h1 h2 h3 h4
      refine wp_block ?_
      refine wp_loop (fun a W => ∃ (i : Nat), i ≤ m ∧ (a.tmps.size = 152 ∧ a.defers = []) ∧ a.eval (.tmp 1) = .pointer (some ⟨gq, 0, none⟩) ∧ a.eval (.tmp 3) = a23 ∧ a.eval (.tmp 4) = o23 ∧ a.eval (.tmp 5) = .int .i64 ((0 : Nat) : Int) ∧ a.eval (.tmp 55) = v0 ∧ a.eval (.tmp 56) = .int .i64 ((J : Nat) : Int) ∧ a.eval (.tmp 57) = .int .i64 ((j : Nat) : Int) ∧ a.eval (.tmp 8) = .int .i64 ((j : Nat) : Int) ∧ a.eval (.tmp 9) = .int .i64 ((lefC (gN sf) (chD (gN sf) J (gN df)) i j : Nat) : Int) ∧ a.eval (.tmp 62) = a23 ∧ a.eval (.tmp 63) = .int .i64 ((m : Nat) : Int) ∧ a.eval (.tmp 64) = .int .i64 ((i : Nat) : Int) ∧ Below X8.heap.size X8 W) (fun a _ => m - (intOf (a.eval (.tmp 64))).toNat) ⟨0, Nat.zero_le _, A, t1, t3, t4, t5, t55, t56, t57, t8, t9, t62, t63, t64, BB⟩ ?_
      clear A t1 t3 t4 t5 t55 t56 t57 t8 t9 t62 t63 t64 BB a
      rintro a XL12 ⟨i, hi, A, t1, t3, t4, t5, t55, t56, t57, t8, t9, t62, t63, t64, BB⟩
      have esi := t64
      refine wp_seq ?_
      refine wp_region_sq (σ := Unit) 152 [(0, 65)] (fun j_ s X => match j_ with | 0 => Below X8.heap.size X8 X | _ => Below X8.heap.size X8 X) (fun s => fun i_ => match i_ with | 0 => .bool (decide (i < m)) | _ => undef) () A.1 (by kernel_rfl) (by decide) (by decide) (BB) ?_ ?_
      · intro i_ hi_ s a X hf hv hn hS
        match i_, hi_ with
        | 0, _ => exact stepV rfl rfl (execLtW (p := i) (q := m) rfl ((hf 64 (by decide)).trans t64) ((hf 63 (by decide)).trans t63)) ⟨s, ⟨_, rfl, rfl⟩, hS, fun _ _ => rfl⟩
        | k_ + 1, h_ => exact absurd h_ (by simp)
      rintro _ a X12 h1 h2 h3 h4 hS
      clear BB
      replace hS : Below X8.heap.size X8 X12 := hS
      have BB := hS
      clear hS
      replace t1 := (h3 1 (by decide)).trans t1
      replace t3 := (h3 3 (by decide)).trans t3
      replace t4 := (h3 4 (by decide)).trans t4
      replace t5 := (h3 5 (by decide)).trans t5
      replace t55 := (h3 55 (by decide)).trans t55
      replace t56 := (h3 56 (by decide)).trans t56
      replace t57 := (h3 57 (by decide)).trans t57
      replace t8 := (h3 8 (by decide)).trans t8
      replace t9 := (h3 9 (by decide)).trans t9
      replace t62 := (h3 62 (by decide)).trans t62
      replace t63 := (h3 63 (by decide)).trans t63
      replace t64 := (h3 64 (by decide)).trans t64
      have t65 : a.eval (.tmp 65) = .bool (decide (i < m)) := h4 0 _ rfl _ rfl
      replace A := (⟨h1, h2.trans A.2⟩ : a.tmps.size = 152 ∧ a.defers = [])
      clear h1 h2 h3 h4
      refine wp_seq ?_
      by_cases lti : i < m
      · rw [decide_eq_true lti] at t65
        refine wp_cond_true t65 ?_
        refine wp_skip ?_
        clear t65
        refine wp_seq ?_
        refine wp_block ?_
        obtain ⟨aab, aao, aac, eaa, haab, haac⟩ := open_sl Fa23 (by omega)
        have caa : ∀ k, k < m → ∀ X, Below X8.heap.size X8 X → X.cell? ⟨aab, aao + k, none⟩ = some (.int .i64 ((pcF sf J df) k)) := fun k hk X hX => by rw [cell_below hX haab]; exact haac k hk
        obtain ⟨c, ec⟩ : ∃ c, chD (gN sf) J (gN df) i = c := ⟨_, rfl⟩
        refine wp_seq ?_
        refine wp_region_sq (σ := Unit) 152 [(0, 66), (1, 67), (2, 11)] (fun j_ s X => match j_ with | 0 => Below X8.heap.size X8 X | 1 => Below X8.heap.size X8 X | 2 => Below X8.heap.size X8 X | _ => Below X8.heap.size X8 X) (fun s => fun i_ => match i_ with | 0 => .pointer (some ⟨aab, aao + i, none⟩) | 1 => .int .i64 ((c : Nat) : Int) | 2 => .int .i64 ((c : Nat) : Int) | _ => undef) () A.1 (by kernel_rfl) (by decide) (by decide) (BB) ?_ ?_
        · intro i_ hi_ s a X hf hv hn hS
          match i_, hi_ with
          | 0, _ => exact stepV rfl rfl (execIdxN (k := i) rfl (((hf 62 (by decide)).trans t62).trans eaa) ((hf 64 (by decide)).trans t64) lti) ⟨s, ⟨_, rfl, rfl⟩, hS, fun _ _ => rfl⟩
          | 1, _ => exact stepV rfl rfl (execLd3 rfl (hv 0 (by omega) _ rfl _ rfl) ((caa i lti X hS).trans (by rw [← ec]; rfl))) ⟨s, ⟨_, rfl, rfl⟩, hS, fun _ _ => rfl⟩
          | 2, _ => exact stepV rfl rfl (execAsgB rfl (hv 1 (by omega) _ rfl _ rfl)) ⟨s, ⟨_, rfl, rfl⟩, hS, fun _ _ => rfl⟩
          | k_ + 3, h_ => exact absurd h_ (by simp)
        rintro _ a X13 h1 h2 h3 h4 hS
        clear BB
        replace hS : Below X8.heap.size X8 X13 := hS
        have BB := hS
        clear hS
        replace t1 := (h3 1 (by decide)).trans t1
        replace t3 := (h3 3 (by decide)).trans t3
        replace t4 := (h3 4 (by decide)).trans t4
        replace t5 := (h3 5 (by decide)).trans t5
        replace t55 := (h3 55 (by decide)).trans t55
        replace t56 := (h3 56 (by decide)).trans t56
        replace t57 := (h3 57 (by decide)).trans t57
        replace t8 := (h3 8 (by decide)).trans t8
        replace t9 := (h3 9 (by decide)).trans t9
        replace t62 := (h3 62 (by decide)).trans t62
        replace t63 := (h3 63 (by decide)).trans t63
        replace t64 := (h3 64 (by decide)).trans t64
        have t11 : a.eval (.tmp 11) = .int .i64 ((c : Nat) : Int) := h4 2 _ rfl _ rfl
        replace A := (⟨h1, h2.trans A.2⟩ : a.tmps.size = 152 ∧ a.defers = [])
        clear h1 h2 h3 h4
        refine wp_seq ?_
        by_cases hcj : c = j
        · refine wp_region_sq (σ := Unit) 152 [(0, 68), (1, 69), (2, 70)] (fun j_ s X => match j_ with | 0 => Below X8.heap.size X8 X | 1 => Below X8.heap.size X8 X | 2 => Below X8.heap.size X8 X | _ => Below X8.heap.size X8 X) (fun s => fun i_ => match i_ with | 0 => .int .i64 ((c : Nat) : Int) | 1 => .int .i64 ((j : Nat) : Int) | 2 => .bool true | _ => undef) () A.1 (by kernel_rfl) (by decide) (by decide) (BB) ?_ ?_
          · intro i_ hi_ s a X hf hv hn hS
            match i_, hi_ with
            | 0, _ => exact stepV rfl rfl (execMvB rfl ((hf 11 (by decide)).trans t11)) ⟨s, ⟨_, rfl, rfl⟩, hS, fun _ _ => rfl⟩
            | 1, _ => exact stepV rfl rfl (execMvB rfl ((hf 8 (by decide)).trans t8)) ⟨s, ⟨_, rfl, rfl⟩, hS, fun _ _ => rfl⟩
            | 2, _ => exact stepV rfl rfl (execDec (execEqN (p := c) (q := j) rfl (hv 0 (by omega) _ rfl _ rfl) (hv 1 (by omega) _ rfl _ rfl)) (decide_eq_true (by exact hcj))) ⟨s, ⟨_, rfl, rfl⟩, hS, fun _ _ => rfl⟩
            | k_ + 3, h_ => exact absurd h_ (by simp)
          rintro _ a X14 h1 h2 h3 h4 hS
          clear BB
          replace hS : Below X8.heap.size X8 X14 := hS
          have BB := hS
          clear hS
          replace t1 := (h3 1 (by decide)).trans t1
          replace t3 := (h3 3 (by decide)).trans t3
          replace t4 := (h3 4 (by decide)).trans t4
          replace t5 := (h3 5 (by decide)).trans t5
          replace t55 := (h3 55 (by decide)).trans t55
          replace t56 := (h3 56 (by decide)).trans t56
          replace t57 := (h3 57 (by decide)).trans t57
          replace t8 := (h3 8 (by decide)).trans t8
          replace t9 := (h3 9 (by decide)).trans t9
          replace t62 := (h3 62 (by decide)).trans t62
          replace t63 := (h3 63 (by decide)).trans t63
          replace t64 := (h3 64 (by decide)).trans t64
          have t70 : a.eval (.tmp 70) = .bool true := h4 2 _ rfl _ rfl
          replace A := (⟨h1, h2.trans A.2⟩ : a.tmps.size = 152 ∧ a.defers = [])
          clear h1 h2 h3 h4
          clear t11
          refine wp_cond_true t70 ?_
          clear t70
          have hvis := hpt.vis lti
          rw [ec, hcj] at hvis
          have hle : lefC (gN sf) (chD (gN sf) J (gN df)) i j = gN sf j - cntC (chD (gN sf) J (gN df)) j i := rfl
          refine wp_region_sq (σ := Unit) 152 [(0, 71), (1, 72), (2, 9)] (fun j_ s X => match j_ with | 0 => Below X8.heap.size X8 X | 1 => Below X8.heap.size X8 X | 2 => Below X8.heap.size X8 X | _ => Below X8.heap.size X8 X) (fun s => fun i_ => match i_ with | 0 => .int .i64 ((lefC (gN sf) (chD (gN sf) J (gN df)) i j : Nat) : Int) | 1 => .int .i64 ((lefC (gN sf) (chD (gN sf) J (gN df)) i j - 1 : Nat) : Int) | 2 => .int .i64 ((lefC (gN sf) (chD (gN sf) J (gN df)) i j - 1 : Nat) : Int) | _ => undef) () A.1 (by kernel_rfl) (by decide) (by decide) (BB) ?_ ?_
          · intro i_ hi_ s a X hf hv hn hS
            match i_, hi_ with
            | 0, _ => exact stepV rfl rfl (execMvB rfl ((hn 2 (by omega) _ rfl _ rfl).trans t9)) ⟨s, ⟨_, rfl, rfl⟩, hS, fun _ _ => rfl⟩
            | 1, _ => exact stepV rfl rfl (By8.execSubI (p := lefC (gN sf) (chD (gN sf) J (gN df)) i j) (q := 1) rfl (hv 0 (by omega) _ rfl _ rfl) rfl (by omega) (by omega)) ⟨s, ⟨_, rfl, rfl⟩, hS, fun _ _ => rfl⟩
            | 2, _ => exact stepV rfl rfl (execAsgB rfl (hv 1 (by omega) _ rfl _ rfl)) ⟨s, ⟨_, rfl, rfl⟩, hS, fun _ _ => rfl⟩
            | k_ + 3, h_ => exact absurd h_ (by simp)
          rintro _ a X15 h1 h2 h3 h4 hS
          clear BB
          replace hS : Below X8.heap.size X8 X15 := hS
          have BB := hS
          clear hS
          replace t1 := (h3 1 (by decide)).trans t1
          replace t3 := (h3 3 (by decide)).trans t3
          replace t4 := (h3 4 (by decide)).trans t4
          replace t5 := (h3 5 (by decide)).trans t5
          replace t55 := (h3 55 (by decide)).trans t55
          replace t56 := (h3 56 (by decide)).trans t56
          replace t57 := (h3 57 (by decide)).trans t57
          replace t8 := (h3 8 (by decide)).trans t8
          replace t9 : a.eval (.tmp 9) = .int .i64 ((lefC (gN sf) (chD (gN sf) J (gN df)) i j - 1 : Nat) : Int) := h4 2 _ rfl _ rfl
          replace t62 := (h3 62 (by decide)).trans t62
          replace t63 := (h3 63 (by decide)).trans t63
          replace t64 := (h3 64 (by decide)).trans t64
          replace A := (⟨h1, h2.trans A.2⟩ : a.tmps.size = 152 ∧ a.defers = [])
          clear h1 h2 h3 h4
          have e9 : lefC (gN sf) (chD (gN sf) J (gN df)) i j - 1 = lefC (gN sf) (chD (gN sf) J (gN df)) (i + 1) j := by rw [lefC_succ, ec, hcj, dec1_at]
          rw [e9] at t9
          refine wp_region_sq (σ := Unit) 152 [(0, 73), (1, 64)] (fun j_ s X => match j_ with | 0 => Below X8.heap.size X8 X | 1 => Below X8.heap.size X8 X | _ => Below X8.heap.size X8 X) (fun s => fun i_ => match i_ with | 0 => .int .i64 ((i + 1 : Nat) : Int) | 1 => .int .i64 ((i + 1 : Nat) : Int) | _ => undef) () A.1 (by kernel_rfl) (by decide) (by decide) (BB) ?_ ?_
          · intro i_ hi_ s a X hf hv hn hS
            match i_, hi_ with
            | 0, _ => exact stepV rfl rfl (execAd8 (p := i) (q := 1) rfl ((hn 1 (by omega) _ rfl _ rfl).trans t64) rfl (by omega)) ⟨s, ⟨_, rfl, rfl⟩, hS, fun _ _ => rfl⟩
            | 1, _ => exact stepV rfl rfl (execMvB rfl (hv 0 (by omega) _ rfl _ rfl)) ⟨s, ⟨_, rfl, rfl⟩, hS, fun _ _ => rfl⟩
            | k_ + 2, h_ => exact absurd h_ (by simp)
          rintro _ a X16 h1 h2 h3 h4 hS
          clear BB
          replace hS : Below X8.heap.size X8 X16 := hS
          have BB := hS
          clear hS
          replace t1 := (h3 1 (by decide)).trans t1
          replace t3 := (h3 3 (by decide)).trans t3
          replace t4 := (h3 4 (by decide)).trans t4
          replace t5 := (h3 5 (by decide)).trans t5
          replace t55 := (h3 55 (by decide)).trans t55
          replace t56 := (h3 56 (by decide)).trans t56
          replace t57 := (h3 57 (by decide)).trans t57
          replace t8 := (h3 8 (by decide)).trans t8
          replace t9 := (h3 9 (by decide)).trans t9
          replace t62 := (h3 62 (by decide)).trans t62
          replace t63 := (h3 63 (by decide)).trans t63
          replace t64 : a.eval (.tmp 64) = .int .i64 ((i + 1 : Nat) : Int) := h4 1 _ rfl _ rfl
          replace A := (⟨h1, h2.trans A.2⟩ : a.tmps.size = 152 ∧ a.defers = [])
          clear h1 h2 h3 h4
          exact ⟨⟨i + 1, lti, A, t1, t3, t4, t5, t55, t56, t57, t8, t9, t62, t63, t64, BB⟩, by show m - (intOf (a.eval (.tmp 64))).toNat < m - (intOf (Act.eval _ (.tmp 64))).toNat; rw [t64, esi]; show m - (i + 1) < m - i; omega⟩
        · refine wp_region_sq (σ := Unit) 152 [(0, 68), (1, 69), (2, 70)] (fun j_ s X => match j_ with | 0 => Below X8.heap.size X8 X | 1 => Below X8.heap.size X8 X | 2 => Below X8.heap.size X8 X | _ => Below X8.heap.size X8 X) (fun s => fun i_ => match i_ with | 0 => .int .i64 ((c : Nat) : Int) | 1 => .int .i64 ((j : Nat) : Int) | 2 => .bool false | _ => undef) () A.1 (by kernel_rfl) (by decide) (by decide) (BB) ?_ ?_
          · intro i_ hi_ s a X hf hv hn hS
            match i_, hi_ with
            | 0, _ => exact stepV rfl rfl (execMvB rfl ((hf 11 (by decide)).trans t11)) ⟨s, ⟨_, rfl, rfl⟩, hS, fun _ _ => rfl⟩
            | 1, _ => exact stepV rfl rfl (execMvB rfl ((hf 8 (by decide)).trans t8)) ⟨s, ⟨_, rfl, rfl⟩, hS, fun _ _ => rfl⟩
            | 2, _ => exact stepV rfl rfl (execDec (execEqN (p := c) (q := j) rfl (hv 0 (by omega) _ rfl _ rfl) (hv 1 (by omega) _ rfl _ rfl)) (decide_eq_false (by exact hcj))) ⟨s, ⟨_, rfl, rfl⟩, hS, fun _ _ => rfl⟩
            | k_ + 3, h_ => exact absurd h_ (by simp)
          rintro _ a X14 h1 h2 h3 h4 hS
          clear BB
          replace hS : Below X8.heap.size X8 X14 := hS
          have BB := hS
          clear hS
          replace t1 := (h3 1 (by decide)).trans t1
          replace t3 := (h3 3 (by decide)).trans t3
          replace t4 := (h3 4 (by decide)).trans t4
          replace t5 := (h3 5 (by decide)).trans t5
          replace t55 := (h3 55 (by decide)).trans t55
          replace t56 := (h3 56 (by decide)).trans t56
          replace t57 := (h3 57 (by decide)).trans t57
          replace t8 := (h3 8 (by decide)).trans t8
          replace t9 := (h3 9 (by decide)).trans t9
          replace t62 := (h3 62 (by decide)).trans t62
          replace t63 := (h3 63 (by decide)).trans t63
          replace t64 := (h3 64 (by decide)).trans t64
          have t70 : a.eval (.tmp 70) = .bool false := h4 2 _ rfl _ rfl
          replace A := (⟨h1, h2.trans A.2⟩ : a.tmps.size = 152 ∧ a.defers = [])
          clear h1 h2 h3 h4
          clear t11
          refine wp_cond_false t70 ?_
          refine wp_skip ?_
          clear t70
          have e9 : lefC (gN sf) (chD (gN sf) J (gN df)) i j = lefC (gN sf) (chD (gN sf) J (gN df)) (i + 1) j := by rw [lefC_succ, ec, dec1_o (fun q => hcj q.symm)]
          rw [e9] at t9
          refine wp_region_sq (σ := Unit) 152 [(0, 73), (1, 64)] (fun j_ s X => match j_ with | 0 => Below X8.heap.size X8 X | 1 => Below X8.heap.size X8 X | _ => Below X8.heap.size X8 X) (fun s => fun i_ => match i_ with | 0 => .int .i64 ((i + 1 : Nat) : Int) | 1 => .int .i64 ((i + 1 : Nat) : Int) | _ => undef) () A.1 (by kernel_rfl) (by decide) (by decide) (BB) ?_ ?_
          · intro i_ hi_ s a X hf hv hn hS
            match i_, hi_ with
            | 0, _ => exact stepV rfl rfl (execAd8 (p := i) (q := 1) rfl ((hn 1 (by omega) _ rfl _ rfl).trans t64) rfl (by omega)) ⟨s, ⟨_, rfl, rfl⟩, hS, fun _ _ => rfl⟩
            | 1, _ => exact stepV rfl rfl (execMvB rfl (hv 0 (by omega) _ rfl _ rfl)) ⟨s, ⟨_, rfl, rfl⟩, hS, fun _ _ => rfl⟩
            | k_ + 2, h_ => exact absurd h_ (by simp)
          rintro _ a X16 h1 h2 h3 h4 hS
          clear BB
          replace hS : Below X8.heap.size X8 X16 := hS
          have BB := hS
          clear hS
          replace t1 := (h3 1 (by decide)).trans t1
          replace t3 := (h3 3 (by decide)).trans t3
          replace t4 := (h3 4 (by decide)).trans t4
          replace t5 := (h3 5 (by decide)).trans t5
          replace t55 := (h3 55 (by decide)).trans t55
          replace t56 := (h3 56 (by decide)).trans t56
          replace t57 := (h3 57 (by decide)).trans t57
          replace t8 := (h3 8 (by decide)).trans t8
          replace t9 := (h3 9 (by decide)).trans t9
          replace t62 := (h3 62 (by decide)).trans t62
          replace t63 := (h3 63 (by decide)).trans t63
          replace t64 : a.eval (.tmp 64) = .int .i64 ((i + 1 : Nat) : Int) := h4 1 _ rfl _ rfl
          replace A := (⟨h1, h2.trans A.2⟩ : a.tmps.size = 152 ∧ a.defers = [])
          clear h1 h2 h3 h4
          exact ⟨⟨i + 1, lti, A, t1, t3, t4, t5, t55, t56, t57, t8, t9, t62, t63, t64, BB⟩, by show m - (intOf (a.eval (.tmp 64))).toNat < m - (intOf (Act.eval _ (.tmp 64))).toNat; rw [t64, esi]; show m - (i + 1) < m - i; omega⟩
      · rw [decide_eq_false lti] at t65
        refine wp_cond_false t65 ?_
        refine wp_exit ?_
        first | refine exit_in ?_ | refine exit_then (exit_in ?_) | refine exit_then (exit_then (exit_in ?_))
        clear t65 esi
        have him : i = m := by omega
        have hz : lefC (gN sf) (chD (gN sf) J (gN df)) i j = 0 := by
          show gN sf j - cntC _ j i = 0
          rw [him, hpt.cnt j ltj]
          omega
        rw [hz] at t9
        clear t62 t63 t64 t8
        refine wp_seq ?_
        refine wp_region_sq (σ := Unit) 152 [(0, 74), (1, 75)] (fun j_ s X => match j_ with | 0 => Below X8.heap.size X8 X | 1 => Below X8.heap.size X8 X | _ => Below X8.heap.size X8 X) (fun s => fun i_ => match i_ with | 0 => .int .i64 ((0 : Nat) : Int) | 1 => .bool false | _ => undef) () A.1 (by kernel_rfl) (by decide) (by decide) (BB) ?_ ?_
        · intro i_ hi_ s a X hf hv hn hS
          match i_, hi_ with
          | 0, _ => exact stepV rfl rfl (execMvB rfl ((hf 9 (by decide)).trans t9)) ⟨s, ⟨_, rfl, rfl⟩, hS, fun _ _ => rfl⟩
          | 1, _ => exact stepV rfl rfl (execDec (execNeN (p := 0) (q := 0) rfl (hv 0 (by omega) _ rfl _ rfl) rfl) (decide_eq_false (by omega))) ⟨s, ⟨_, rfl, rfl⟩, hS, fun _ _ => rfl⟩
          | k_ + 2, h_ => exact absurd h_ (by simp)
        rintro _ a X17 h1 h2 h3 h4 hS
        clear BB
        replace hS : Below X8.heap.size X8 X17 := hS
        have BB := hS
        clear hS
        replace t1 := (h3 1 (by decide)).trans t1
        replace t3 := (h3 3 (by decide)).trans t3
        replace t4 := (h3 4 (by decide)).trans t4
        replace t5 := (h3 5 (by decide)).trans t5
        replace t55 := (h3 55 (by decide)).trans t55
        replace t56 := (h3 56 (by decide)).trans t56
        replace t57 := (h3 57 (by decide)).trans t57
        have t75 : a.eval (.tmp 75) = .bool false := h4 1 _ rfl _ rfl
        replace A := (⟨h1, h2.trans A.2⟩ : a.tmps.size = 152 ∧ a.defers = [])
        clear h1 h2 h3 h4
        clear t9
        refine wp_cond_false t75 ?_
        refine wp_skip ?_
        clear t75
        refine wp_region_sq (σ := Unit) 152 [(0, 76), (1, 57)] (fun j_ s X => match j_ with | 0 => Below X8.heap.size X8 X | 1 => Below X8.heap.size X8 X | _ => Below X8.heap.size X8 X) (fun s => fun i_ => match i_ with | 0 => .int .i64 ((j + 1 : Nat) : Int) | 1 => .int .i64 ((j + 1 : Nat) : Int) | _ => undef) () A.1 (by kernel_rfl) (by decide) (by decide) (BB) ?_ ?_
        · intro i_ hi_ s a X hf hv hn hS
          match i_, hi_ with
          | 0, _ => exact stepV rfl rfl (execAd8 (p := j) (q := 1) rfl ((hn 1 (by omega) _ rfl _ rfl).trans t57) rfl (by omega)) ⟨s, ⟨_, rfl, rfl⟩, hS, fun _ _ => rfl⟩
          | 1, _ => exact stepV rfl rfl (execMvB rfl (hv 0 (by omega) _ rfl _ rfl)) ⟨s, ⟨_, rfl, rfl⟩, hS, fun _ _ => rfl⟩
          | k_ + 2, h_ => exact absurd h_ (by simp)
        rintro _ a X19 h1 h2 h3 h4 hS
        clear BB
        replace hS : Below X8.heap.size X8 X19 := hS
        have BB := hS
        clear hS
        replace t1 := (h3 1 (by decide)).trans t1
        replace t3 := (h3 3 (by decide)).trans t3
        replace t4 := (h3 4 (by decide)).trans t4
        replace t5 := (h3 5 (by decide)).trans t5
        replace t55 := (h3 55 (by decide)).trans t55
        replace t56 := (h3 56 (by decide)).trans t56
        replace t57 : a.eval (.tmp 57) = .int .i64 ((j + 1 : Nat) : Int) := h4 1 _ rfl _ rfl
        replace A := (⟨h1, h2.trans A.2⟩ : a.tmps.size = 152 ∧ a.defers = [])
        clear h1 h2 h3 h4
        exact ⟨⟨j + 1, ltj, A, t1, t3, t4, t5, t55, t56, t57, BB⟩, by show J - (intOf (a.eval (.tmp 57))).toNat < J - (intOf (Act.eval _ (.tmp 57))).toNat; rw [t57, esj]; show J - (j + 1) < J - j; omega⟩
    · rw [decide_eq_false ltj] at t58
      refine wp_cond_false t58 ?_
      refine wp_exit ?_
      first | refine exit_in ?_ | refine exit_then (exit_in ?_) | refine exit_then (exit_then (exit_in ?_))
      clear t58 esj
      clear t55 t56 t57
      replace FI := (FI.on BB)
      replace FF := (FF.on BB)
      replace FC := (FC.on BB)
      replace FO := (FO.on BB)
      replace FQ := (on9 FQ BB)
      replace Fa23 := (Fa23.on BB)
      replace Fo23 := (Fo23.on BB)
      replace BW := BW.trans (BB.mono BW.size)
      clear BB
      refine wp_seq ?_
      refine wp_region_sq (σ := Value) 152 [(0, 78), (1, 79), (2, 80), (3, 81), (4, 82), (5, 83), (6, 84), (7, 77), (8, 85), (9, 86), (10, 12), (11, 13)] (fun j_ s X => match j_ with | 0 => Below X9.heap.size X9 X | 1 => Below X9.heap.size X9 X | 2 => Below X9.heap.size X9 X | 3 => Below X9.heap.size X9 X | 4 => Below X9.heap.size X9 X | 5 => Below X9.heap.size X9 X | 6 => Below X9.heap.size X9 X | 7 => Below X9.heap.size X9 X ∧ (SliceI X s (zl (drE sf J cf n vf k) n) (dwF sf cf vf)) | 8 => Below X9.heap.size X9 X ∧ (SliceI X s (zl (drE sf J cf n vf k) n) (dwF sf cf vf)) | 9 => Below X9.heap.size X9 X ∧ (SliceI X s (zl (drE sf J cf n vf k) n) (dwF sf cf vf)) | 10 => Below X9.heap.size X9 X ∧ (SliceI X s (zl (drE sf J cf n vf k) n) (dwF sf cf vf)) | 11 => Below X9.heap.size X9 X ∧ (SliceI X s (zl (drE sf J cf n vf k) n) (dwF sf cf vf)) | _ => Below X9.heap.size X9 X ∧ (SliceI X s (zl (drE sf J cf n vf k) n) (dwF sf cf vf))) (fun s => fun i_ => match i_ with | 0 => .pointer (some ⟨gq, 0, none⟩) | 1 => v0 | 2 => .pointer (some ⟨gq, 2, none⟩) | 3 => v2 | 4 => .pointer (some ⟨gq, 3, none⟩) | 5 => v3 | 6 => .tuple #[s, .int .i64 ((drE sf J cf n vf k : Nat) : Int)] | 7 => .tuple #[s, .int .i64 ((drE sf J cf n vf k : Nat) : Int)] | 8 => s | 9 => .int .i64 ((drE sf J cf n vf k : Nat) : Int) | 10 => s | 11 => .int .i64 ((drE sf J cf n vf k : Nat) : Int) | _ => undef) undef A.1 (by kernel_rfl) (by decide) (by decide) (Below.refl _ _) ?_ ?_
      · intro i_ hi_ s a X hf hv hn hS
        match i_, hi_ with
        | 0, _ => exact stepV rfl rfl (execFldAk0 rfl ((hf 1 (by decide)).trans t1)) ⟨s, ⟨_, rfl, rfl⟩, hS, fun _ _ => rfl⟩
        | 1, _ => exact stepV rfl rfl (execLdLI (v := v0) rfl (hv 0 (by omega) _ rfl _ rfl) (ak_at0 (on9 FQ hS))) ⟨s, ⟨_, rfl, rfl⟩, hS, fun _ _ => rfl⟩
        | 2, _ => exact stepV rfl rfl (execFldAk2 rfl ((hf 1 (by decide)).trans t1)) ⟨s, ⟨_, rfl, rfl⟩, hS, fun _ _ => rfl⟩
        | 3, _ => exact stepV rfl rfl (execLdLI (v := v2) rfl (hv 2 (by omega) _ rfl _ rfl) (ak_at2 (on9 FQ hS))) ⟨s, ⟨_, rfl, rfl⟩, hS, fun _ _ => rfl⟩
        | 4, _ => exact stepV rfl rfl (execFldAk3 rfl ((hf 1 (by decide)).trans t1)) ⟨s, ⟨_, rfl, rfl⟩, hS, fun _ _ => rfl⟩
        | 5, _ => exact stepV rfl rfl (execLdLI (v := v3) rfl (hv 4 (by omega) _ rfl _ rfl) (ak_at3 (on9 FQ hS))) ⟨s, ⟨_, rfl, rfl⟩, hS, fun _ _ => rfl⟩
        | 6, _ =>
          refine stepC rfl rfl (execCall3 Try.func20 (by kernel_rfl) (by kernel_rfl) rfl (hv 1 (by omega) _ rfl _ rfl) (hv 3 (by omega) _ rfl _ rfl) (hv 5 (by omega) _ rfl _ rfl)) (pdraws12 sf cf vf J n k _ _ _ X (FI.on hS) (by omega) (FC.on hS) (by omega) (FO.on hS)) fun e w' hh => ?_
          obtain ⟨r0_, he, hk, hb⟩ := hh
          refine ⟨_, he, r0_, ⟨_, rfl, rfl⟩, ⟨(hS).trans ((hb).mono (hS).size), own_ints hk (dw_fits (by omega))⟩, fun i hi => ?_⟩
          match i, hi with
          | 0, _ => rfl
          | 1, _ => rfl
          | 2, _ => rfl
          | 3, _ => rfl
          | 4, _ => rfl
          | 5, _ => rfl
          | n_ + 6, h_ => omega
        | 7, _ => exact stepV rfl rfl (execMvB rfl (hv 6 (by omega) _ rfl _ rfl)) ⟨s, ⟨_, rfl, rfl⟩, hS, fun _ _ => rfl⟩
        | 8, _ => exact stepV rfl rfl (execExtT rfl (hv 7 (by omega) _ rfl _ rfl) rfl) ⟨s, ⟨_, rfl, rfl⟩, hS, fun _ _ => rfl⟩
        | 9, _ => exact stepV rfl rfl (execExtT rfl (hv 7 (by omega) _ rfl _ rfl) rfl) ⟨s, ⟨_, rfl, rfl⟩, hS, fun _ _ => rfl⟩
        | 10, _ => exact stepV rfl rfl (execAsgB rfl (hv 8 (by omega) _ rfl _ rfl)) ⟨s, ⟨_, rfl, rfl⟩, hS, fun _ _ => rfl⟩
        | 11, _ => exact stepV rfl rfl (execAsgB rfl (hv 9 (by omega) _ rfl _ rfl)) ⟨s, ⟨_, rfl, rfl⟩, hS, fun _ _ => rfl⟩
        | k_ + 12, h_ => exact absurd h_ (by simp)
      rintro d84 a X20 h1 h2 h3 h4 hS
      replace hS : Below X9.heap.size X9 X20 ∧ (SliceI X20 d84 (zl (drE sf J cf n vf k) n) (dwF sf cf vf)) := hS
      obtain ⟨bX, Fd84⟩ := hS
      replace t1 := (h3 1 (by decide)).trans t1
      replace t3 := (h3 3 (by decide)).trans t3
      replace t4 := (h3 4 (by decide)).trans t4
      replace t5 := (h3 5 (by decide)).trans t5
      have t12 : a.eval (.tmp 12) = d84 := h4 10 _ rfl _ rfl
      have t13 : a.eval (.tmp 13) = .int .i64 ((drE sf J cf n vf k : Nat) : Int) := h4 11 _ rfl _ rfl
      replace FI := (FI.on bX)
      replace FF := (FF.on bX)
      replace FC := (FC.on bX)
      replace FO := (FO.on bX)
      replace FQ := (on9 FQ bX)
      replace Fa23 := (Fa23.on bX)
      replace Fo23 := (Fo23.on bX)
      have ZX20 := bX.size
      replace BW := BW.trans (bX.mono BW.size)
      clear bX
      replace A := (⟨h1, h2.trans A.2⟩ : a.tmps.size = 152 ∧ a.defers = [])
      clear h1 h2 h3 h4
      by_cases h2 : drQ sf J cf n vf k = true
      · rw [drE_ok h2] at t13
        obtain ⟨hs2, hst2, hkS, _⟩ := drQ_iff.1 h2
        have hnS := stQ_len hst2
        obtain rfl : n = k := by omega
        obtain ⟨hpq, hb1, hb2⟩ := pat_dr h2
        replace Fd84 : (SliceI X20 d84 (n) (dwF sf cf vf)) := (by have h_ := Fd84; rw [drE_ok h2, zl_ok] at h_; exact h_)
        refine wp_seq ?_
        refine wp_seq ?_
        refine wp_region_sq (σ := Unit) 152 [(0, 87), (1, 88)] (fun j_ s X => match j_ with | 0 => Below X20.heap.size X20 X | 1 => Below X20.heap.size X20 X | _ => Below X20.heap.size X20 X) (fun s => fun i_ => match i_ with | 0 => .int .i64 ((0 : Nat) : Int) | 1 => .bool false | _ => undef) () A.1 (by kernel_rfl) (by decide) (by decide) (Below.refl _ _) ?_ ?_
        · intro i_ hi_ s a X hf hv hn hS
          match i_, hi_ with
          | 0, _ => exact stepV rfl rfl (execMvB rfl ((hf 13 (by decide)).trans t13)) ⟨s, ⟨_, rfl, rfl⟩, hS, fun _ _ => rfl⟩
          | 1, _ => exact stepV rfl rfl (execDec (execNeE (p := 0) (q := 0) rfl (hv 0 (by omega) _ rfl _ rfl) rfl) (decide_eq_false (by decide))) ⟨s, ⟨_, rfl, rfl⟩, hS, fun _ _ => rfl⟩
          | k_ + 2, h_ => exact absurd h_ (by simp)
        rintro _ a X21 h1 h2 h3 h4 hS
        replace hS : Below X20.heap.size X20 X21 := hS
        have bX := hS
        clear hS
        replace t1 := (h3 1 (by decide)).trans t1
        replace t12 := (h3 12 (by decide)).trans t12
        have t88 : a.eval (.tmp 88) = .bool false := h4 1 _ rfl _ rfl
        replace FI := (FI.on bX)
        replace FF := (FF.on bX)
        replace FC := (FC.on bX)
        replace FO := (FO.on bX)
        replace FQ := (on9 FQ bX)
        replace Fa23 := (Fa23.on bX)
        replace Fo23 := (Fo23.on bX)
        replace Fd84 := (Fd84.on bX)
        have ZX21 := bX.size
        replace BW := BW.trans (bX.mono BW.size)
        clear bX
        replace A := (⟨h1, h2.trans A.2⟩ : a.tmps.size = 152 ∧ a.defers = [])
        clear h1 h2 h3 h4
        clear t3 t4 t5 t13
        refine wp_cond_false t88 ?_
        refine wp_skip ?_
        clear t88
        refine wp_seq ?_
        refine wp_seq ?_
        refine wp_region_sq (σ := Unit) 152 [(0, 112), (1, 113), (2, 114)] (fun j_ s X => match j_ with | 0 => Below X21.heap.size X21 X | 1 => Below X21.heap.size X21 X | 2 => Below X21.heap.size X21 X | _ => Below X21.heap.size X21 X) (fun s => fun i_ => match i_ with | 0 => d84 | 1 => .int .i64 ((n : Nat) : Int) | 2 => .int .i64 ((0 : Nat) : Int) | _ => undef) () A.1 (by kernel_rfl) (by decide) (by decide) (Below.refl _ _) ?_ ?_
        · intro i_ hi_ s a X hf hv hn hS
          match i_, hi_ with
          | 0, _ => exact stepV rfl rfl (execMvB rfl ((hf 12 (by decide)).trans t12)) ⟨s, ⟨_, rfl, rfl⟩, hS, fun _ _ => rfl⟩
          | 1, _ => exact stepV rfl rfl (execLenI (len := n) rfl (hv 0 (by omega) _ rfl _ rfl) ((Fd84.on hS)).shp) ⟨s, ⟨_, rfl, rfl⟩, hS, fun _ _ => rfl⟩
          | 2, _ => exact stepV rfl rfl (execMvB rfl rfl) ⟨s, ⟨_, rfl, rfl⟩, hS, fun _ _ => rfl⟩
          | k_ + 3, h_ => exact absurd h_ (by simp)
        rintro _ a X23 h1 h2 h3 h4 hS
        replace hS : Below X21.heap.size X21 X23 := hS
        have bX := hS
        clear hS
        replace t1 := (h3 1 (by decide)).trans t1
        replace t12 := (h3 12 (by decide)).trans t12
        have t112 : a.eval (.tmp 112) = d84 := h4 0 _ rfl _ rfl
        have t113 : a.eval (.tmp 113) = .int .i64 ((n : Nat) : Int) := h4 1 _ rfl _ rfl
        have t114 : a.eval (.tmp 114) = .int .i64 ((0 : Nat) : Int) := h4 2 _ rfl _ rfl
        replace FI := (FI.on bX)
        replace FF := (FF.on bX)
        replace FC := (FC.on bX)
        replace FO := (FO.on bX)
        replace FQ := (on9 FQ bX)
        replace Fa23 := (Fa23.on bX)
        replace Fo23 := (Fo23.on bX)
        replace Fd84 := (Fd84.on bX)
        have ZX23 := bX.size
        replace BW := BW.trans (bX.mono BW.size)
        clear bX
        replace A := (⟨h1, h2.trans A.2⟩ : a.tmps.size = 152 ∧ a.defers = [])
        clear h1 h2 h3 h4
        have BB : Below X23.heap.size X23 X23 := Below.refl _ _
        refine wp_block ?_
        refine wp_loop (fun a W => ∃ (i : Nat), i ≤ n ∧ (a.tmps.size = 152 ∧ a.defers = []) ∧ a.eval (.tmp 1) = .pointer (some ⟨gq, 0, none⟩) ∧ a.eval (.tmp 12) = d84 ∧ a.eval (.tmp 112) = d84 ∧ a.eval (.tmp 113) = .int .i64 ((n : Nat) : Int) ∧ a.eval (.tmp 114) = .int .i64 ((i : Nat) : Int) ∧ Below X23.heap.size X23 W) (fun a _ => n - (intOf (a.eval (.tmp 114))).toNat) ⟨0, Nat.zero_le _, A, t1, t12, t112, t113, t114, BB⟩ ?_
        clear A t1 t12 t112 t113 t114 BB a
        rintro a XL24 ⟨i, hi, A, t1, t12, t112, t113, t114, BB⟩
        have esi := t114
        refine wp_seq ?_
        refine wp_region_sq (σ := Unit) 152 [(0, 115)] (fun j_ s X => match j_ with | 0 => Below X23.heap.size X23 X | _ => Below X23.heap.size X23 X) (fun s => fun i_ => match i_ with | 0 => .bool (decide (i < n)) | _ => undef) () A.1 (by kernel_rfl) (by decide) (by decide) (BB) ?_ ?_
        · intro i_ hi_ s a X hf hv hn hS
          match i_, hi_ with
          | 0, _ => exact stepV rfl rfl (execLtW (p := i) (q := n) rfl ((hf 114 (by decide)).trans t114) ((hf 113 (by decide)).trans t113)) ⟨s, ⟨_, rfl, rfl⟩, hS, fun _ _ => rfl⟩
          | k_ + 1, h_ => exact absurd h_ (by simp)
        rintro _ a X24 h1 h2 h3 h4 hS
        clear BB
        replace hS : Below X23.heap.size X23 X24 := hS
        have BB := hS
        clear hS
        replace t1 := (h3 1 (by decide)).trans t1
        replace t12 := (h3 12 (by decide)).trans t12
        replace t112 := (h3 112 (by decide)).trans t112
        replace t113 := (h3 113 (by decide)).trans t113
        replace t114 := (h3 114 (by decide)).trans t114
        have t115 : a.eval (.tmp 115) = .bool (decide (i < n)) := h4 0 _ rfl _ rfl
        replace A := (⟨h1, h2.trans A.2⟩ : a.tmps.size = 152 ∧ a.defers = [])
        clear h1 h2 h3 h4
        refine wp_seq ?_
        by_cases lti : i < n
        · rw [decide_eq_true lti] at t115
          refine wp_cond_true t115 ?_
          refine wp_skip ?_
          clear t115
          refine wp_seq ?_
          refine wp_block ?_
          obtain ⟨ddb, ddo, ddc, edd, hddb, hddc⟩ := open_sl Fd84 (by omega)
          have cdd : ∀ k, k < n → ∀ X, Below X23.heap.size X23 X → X.cell? ⟨ddb, ddo + k, none⟩ = some (.int .i64 ((dwF sf cf vf) k)) := fun k hk X hX => by rw [cell_below hX hddb]; exact hddc k hk
          have hdr := faQ_iff.1 (paQ_iff.1 hpq).2.2 i lti
          obtain ⟨w, ew⟩ : ∃ w : Nat, dwF sf cf vf i = w := ⟨(dwF sf cf vf i).toNat, by omega⟩
          refine wp_seq ?_
          refine wp_region_sq (σ := Unit) 152 [(0, 116), (1, 117), (2, 118), (3, 14), (4, 15)] (fun j_ s X => match j_ with | 0 => Below X23.heap.size X23 X | 1 => Below X23.heap.size X23 X | 2 => Below X23.heap.size X23 X | 3 => Below X23.heap.size X23 X | 4 => Below X23.heap.size X23 X | _ => Below X23.heap.size X23 X) (fun s => fun i_ => match i_ with | 0 => .int .i64 ((i : Nat) : Int) | 1 => .pointer (some ⟨ddb, ddo + i, none⟩) | 2 => .int .i64 ((w : Nat) : Int) | 3 => .int .i64 ((i : Nat) : Int) | 4 => .int .i64 ((w : Nat) : Int) | _ => undef) () A.1 (by kernel_rfl) (by decide) (by decide) (BB) ?_ ?_
          · intro i_ hi_ s a X hf hv hn hS
            match i_, hi_ with
            | 0, _ => exact stepV rfl rfl (execMvB rfl ((hf 114 (by decide)).trans t114)) ⟨s, ⟨_, rfl, rfl⟩, hS, fun _ _ => rfl⟩
            | 1, _ => exact stepV rfl rfl (execIdxN (k := i) rfl (((hf 112 (by decide)).trans t112).trans edd) ((hf 114 (by decide)).trans t114) lti) ⟨s, ⟨_, rfl, rfl⟩, hS, fun _ _ => rfl⟩
            | 2, _ => exact stepV rfl rfl (execLd3 rfl (hv 1 (by omega) _ rfl _ rfl) ((cdd i lti X hS).trans (by rw [ew]))) ⟨s, ⟨_, rfl, rfl⟩, hS, fun _ _ => rfl⟩
            | 3, _ => exact stepV rfl rfl (execAsgB rfl (hv 0 (by omega) _ rfl _ rfl)) ⟨s, ⟨_, rfl, rfl⟩, hS, fun _ _ => rfl⟩
            | 4, _ => exact stepV rfl rfl (execAsgB rfl (hv 2 (by omega) _ rfl _ rfl)) ⟨s, ⟨_, rfl, rfl⟩, hS, fun _ _ => rfl⟩
            | k_ + 5, h_ => exact absurd h_ (by simp)
          rintro _ a X25 h1 h2 h3 h4 hS
          clear BB
          replace hS : Below X23.heap.size X23 X25 := hS
          have BB := hS
          clear hS
          replace t1 := (h3 1 (by decide)).trans t1
          replace t12 := (h3 12 (by decide)).trans t12
          replace t112 := (h3 112 (by decide)).trans t112
          replace t113 := (h3 113 (by decide)).trans t113
          replace t114 := (h3 114 (by decide)).trans t114
          have t14 : a.eval (.tmp 14) = .int .i64 ((i : Nat) : Int) := h4 3 _ rfl _ rfl
          have t15 : a.eval (.tmp 15) = .int .i64 ((w : Nat) : Int) := h4 4 _ rfl _ rfl
          replace A := (⟨h1, h2.trans A.2⟩ : a.tmps.size = 152 ∧ a.defers = [])
          clear h1 h2 h3 h4
          refine wp_seq ?_
          refine wp_region_sq (σ := Unit) 152 [(0, 119), (1, 120), (2, 121), (3, 122), (4, 123), (5, 124), (6, 125), (7, 126), (8, 127), (9, 128)] (fun j_ s X => match j_ with | 0 => Below X23.heap.size X23 X | 1 => Below X23.heap.size X23 X | 2 => Below X23.heap.size X23 X | 3 => Below X23.heap.size X23 X | 4 => Below X23.heap.size X23 X | 5 => Below X23.heap.size X23 X | 6 => Below X23.heap.size X23 X | 7 => Below X23.heap.size X23 X | 8 => Below X23.heap.size X23 X | 9 => Below X23.heap.size X23 X | _ => Below X23.heap.size X23 X) (fun s => fun i_ => match i_ with | 0 => .int .i64 ((w : Nat) : Int) | 1 => .bool false | 2 => .bool false | 3 => .int .i64 ((w : Nat) : Int) | 4 => d84 | 5 => .int .i64 ((n : Nat) : Int) | 6 => .int .i64 ((i : Nat) : Int) | 7 => .int .i64 ((n - i : Nat) : Int) | 8 => .bool false | 9 => .bool false | _ => undef) () A.1 (by kernel_rfl) (by decide) (by decide) (BB) ?_ ?_
          · intro i_ hi_ s a X hf hv hn hS
            match i_, hi_ with
            | 0, _ => exact stepV rfl rfl (execMvB rfl ((hf 15 (by decide)).trans t15)) ⟨s, ⟨_, rfl, rfl⟩, hS, fun _ _ => rfl⟩
            | 1, _ => exact stepV rfl rfl (execDec (execLtW (p := w) (q := 0) rfl (hv 0 (by omega) _ rfl _ rfl) rfl) (decide_eq_false (by omega))) ⟨s, ⟨_, rfl, rfl⟩, hS, fun _ _ => rfl⟩
            | 2, _ => exact stepV rfl rfl (execMvB rfl (hv 1 (by omega) _ rfl _ rfl)) ⟨s, ⟨_, rfl, rfl⟩, hS, fun _ _ => rfl⟩
            | 3, _ => exact stepV rfl (wantedOf rfl (yieldedAt rfl rfl (show a.eval (.tmp 121) = .bool false from (hv 2 (by omega) _ rfl _ rfl)))) (execMvB rfl ((hf 15 (by decide)).trans t15)) ⟨s, ⟨_, rfl, rfl⟩, hS, fun _ _ => rfl⟩
            | 4, _ => exact stepV rfl (wantedOf rfl (yieldedAt rfl rfl (show a.eval (.tmp 121) = .bool false from (hv 2 (by omega) _ rfl _ rfl)))) (execMvB rfl ((hf 12 (by decide)).trans t12)) ⟨s, ⟨_, rfl, rfl⟩, hS, fun _ _ => rfl⟩
            | 5, _ => exact stepV rfl (wantedOf rfl (yieldedAt rfl rfl (show a.eval (.tmp 121) = .bool false from (hv 2 (by omega) _ rfl _ rfl)))) (execLenI (len := n) rfl (hv 4 (by omega) _ rfl _ rfl) ((Fd84.on hS)).shp) ⟨s, ⟨_, rfl, rfl⟩, hS, fun _ _ => rfl⟩
            | 6, _ => exact stepV rfl (wantedOf rfl (yieldedAt rfl rfl (show a.eval (.tmp 121) = .bool false from (hv 2 (by omega) _ rfl _ rfl)))) (execMvB rfl ((hf 14 (by decide)).trans t14)) ⟨s, ⟨_, rfl, rfl⟩, hS, fun _ _ => rfl⟩
            | 7, _ => exact stepV rfl (wantedOf rfl (yieldedAt rfl rfl (show a.eval (.tmp 121) = .bool false from (hv 2 (by omega) _ rfl _ rfl)))) (By8.execSubI (p := n) (q := i) rfl (hv 5 (by omega) _ rfl _ rfl) (hv 6 (by omega) _ rfl _ rfl) (by omega) (by omega)) ⟨s, ⟨_, rfl, rfl⟩, hS, fun _ _ => rfl⟩
            | 8, _ => exact stepV rfl (wantedOf rfl (yieldedAt rfl rfl (show a.eval (.tmp 121) = .bool false from (hv 2 (by omega) _ rfl _ rfl)))) (execDec (execGe8 (p := w) (q := n - i) rfl (hv 3 (by omega) _ rfl _ rfl) (hv 7 (by omega) _ rfl _ rfl)) (decide_eq_false (by omega))) ⟨s, ⟨_, rfl, rfl⟩, hS, fun _ _ => rfl⟩
            | 9, _ => exact stepV rfl rfl (execPickF rfl (hv 2 (by omega) _ rfl _ rfl) (hv 8 (by omega) _ rfl _ rfl)) ⟨s, ⟨_, rfl, rfl⟩, hS, fun _ _ => rfl⟩
            | k_ + 10, h_ => exact absurd h_ (by simp)
          rintro _ a X26 h1 h2 h3 h4 hS
          clear BB
          replace hS : Below X23.heap.size X23 X26 := hS
          have BB := hS
          clear hS
          replace t1 := (h3 1 (by decide)).trans t1
          replace t12 := (h3 12 (by decide)).trans t12
          replace t112 := (h3 112 (by decide)).trans t112
          replace t113 := (h3 113 (by decide)).trans t113
          replace t114 := (h3 114 (by decide)).trans t114
          have t128 : a.eval (.tmp 128) = .bool false := h4 9 _ rfl _ rfl
          replace A := (⟨h1, h2.trans A.2⟩ : a.tmps.size = 152 ∧ a.defers = [])
          clear h1 h2 h3 h4
          clear t14 t15
          refine wp_cond_false t128 ?_
          refine wp_skip ?_
          clear t128
          refine wp_region_sq (σ := Unit) 152 [(0, 129), (1, 114)] (fun j_ s X => match j_ with | 0 => Below X23.heap.size X23 X | 1 => Below X23.heap.size X23 X | _ => Below X23.heap.size X23 X) (fun s => fun i_ => match i_ with | 0 => .int .i64 ((i + 1 : Nat) : Int) | 1 => .int .i64 ((i + 1 : Nat) : Int) | _ => undef) () A.1 (by kernel_rfl) (by decide) (by decide) (BB) ?_ ?_
          · intro i_ hi_ s a X hf hv hn hS
            match i_, hi_ with
            | 0, _ => exact stepV rfl rfl (execAd8 (p := i) (q := 1) rfl ((hn 1 (by omega) _ rfl _ rfl).trans t114) rfl (by omega)) ⟨s, ⟨_, rfl, rfl⟩, hS, fun _ _ => rfl⟩
            | 1, _ => exact stepV rfl rfl (execMvB rfl (hv 0 (by omega) _ rfl _ rfl)) ⟨s, ⟨_, rfl, rfl⟩, hS, fun _ _ => rfl⟩
            | k_ + 2, h_ => exact absurd h_ (by simp)
          rintro _ a X28 h1 h2 h3 h4 hS
          clear BB
          replace hS : Below X23.heap.size X23 X28 := hS
          have BB := hS
          clear hS
          replace t1 := (h3 1 (by decide)).trans t1
          replace t12 := (h3 12 (by decide)).trans t12
          replace t112 := (h3 112 (by decide)).trans t112
          replace t113 := (h3 113 (by decide)).trans t113
          replace t114 : a.eval (.tmp 114) = .int .i64 ((i + 1 : Nat) : Int) := h4 1 _ rfl _ rfl
          replace A := (⟨h1, h2.trans A.2⟩ : a.tmps.size = 152 ∧ a.defers = [])
          clear h1 h2 h3 h4
          exact ⟨⟨i + 1, lti, A, t1, t12, t112, t113, t114, BB⟩, by show n - (intOf (a.eval (.tmp 114))).toNat < n - (intOf (Act.eval _ (.tmp 114))).toNat; rw [t114, esi]; show n - (i + 1) < n - i; omega⟩
        · rw [decide_eq_false lti] at t115
          refine wp_cond_false t115 ?_
          refine wp_exit ?_
          first | refine exit_in ?_ | refine exit_then (exit_in ?_) | refine exit_then (exit_then (exit_in ?_))
          clear t115 esi
          clear t112 t113 t114
          replace FI := (FI.on BB)
          replace FF := (FF.on BB)
          replace FC := (FC.on BB)
          replace FO := (FO.on BB)
          replace FQ := (on9 FQ BB)
          replace Fa23 := (Fa23.on BB)
          replace Fo23 := (Fo23.on BB)
          replace Fd84 := (Fd84.on BB)
          replace BW := BW.trans (BB.mono BW.size)
          clear BB
          refine wp_seq ?_
          refine wp_region_sq (σ := Value × Value) 152 [(0, 131), (1, 132), (2, 133), (3, 134), (4, 130), (5, 135), (6, 136), (7, 137), (8, 3), (9, 4), (10, 5)] (fun j_ s X => match j_ with | 0 => Below X24.heap.size X24 X | 1 => Below X24.heap.size X24 X | 2 => Below X24.heap.size X24 X | 3 => Below X24.heap.size X24 X | 4 => Below X24.heap.size X24 X ∧ (SliceI X s.1 (zl (paE sf J (dwF sf cf vf) n) n) (pcF sf J (dwF sf cf vf))) ∧ (SliceI X s.2 (zl (paE sf J (dwF sf cf vf) n) n) (poF sf J (dwF sf cf vf) n)) | 5 => Below X24.heap.size X24 X ∧ (SliceI X s.1 (zl (paE sf J (dwF sf cf vf) n) n) (pcF sf J (dwF sf cf vf))) ∧ (SliceI X s.2 (zl (paE sf J (dwF sf cf vf) n) n) (poF sf J (dwF sf cf vf) n)) | 6 => Below X24.heap.size X24 X ∧ (SliceI X s.1 (zl (paE sf J (dwF sf cf vf) n) n) (pcF sf J (dwF sf cf vf))) ∧ (SliceI X s.2 (zl (paE sf J (dwF sf cf vf) n) n) (poF sf J (dwF sf cf vf) n)) | 7 => Below X24.heap.size X24 X ∧ (SliceI X s.1 (zl (paE sf J (dwF sf cf vf) n) n) (pcF sf J (dwF sf cf vf))) ∧ (SliceI X s.2 (zl (paE sf J (dwF sf cf vf) n) n) (poF sf J (dwF sf cf vf) n)) | 8 => Below X24.heap.size X24 X ∧ (SliceI X s.1 (zl (paE sf J (dwF sf cf vf) n) n) (pcF sf J (dwF sf cf vf))) ∧ (SliceI X s.2 (zl (paE sf J (dwF sf cf vf) n) n) (poF sf J (dwF sf cf vf) n)) | 9 => Below X24.heap.size X24 X ∧ (SliceI X s.1 (zl (paE sf J (dwF sf cf vf) n) n) (pcF sf J (dwF sf cf vf))) ∧ (SliceI X s.2 (zl (paE sf J (dwF sf cf vf) n) n) (poF sf J (dwF sf cf vf) n)) | 10 => Below X24.heap.size X24 X ∧ (SliceI X s.1 (zl (paE sf J (dwF sf cf vf) n) n) (pcF sf J (dwF sf cf vf))) ∧ (SliceI X s.2 (zl (paE sf J (dwF sf cf vf) n) n) (poF sf J (dwF sf cf vf) n)) | _ => Below X24.heap.size X24 X ∧ (SliceI X s.1 (zl (paE sf J (dwF sf cf vf) n) n) (pcF sf J (dwF sf cf vf))) ∧ (SliceI X s.2 (zl (paE sf J (dwF sf cf vf) n) n) (poF sf J (dwF sf cf vf) n))) (fun s => fun i_ => match i_ with | 0 => .pointer (some ⟨gq, 0, none⟩) | 1 => v0 | 2 => d84 | 3 => .tuple #[s.1, s.2, .int .i64 ((paE sf J (dwF sf cf vf) n : Nat) : Int)] | 4 => .tuple #[s.1, s.2, .int .i64 ((paE sf J (dwF sf cf vf) n : Nat) : Int)] | 5 => s.1 | 6 => s.2 | 7 => .int .i64 ((paE sf J (dwF sf cf vf) n : Nat) : Int) | 8 => s.1 | 9 => s.2 | 10 => .int .i64 ((paE sf J (dwF sf cf vf) n : Nat) : Int) | _ => undef) (undef, undef) A.1 (by kernel_rfl) (by decide) (by decide) (Below.refl _ _) ?_ ?_
          · intro i_ hi_ s a X hf hv hn hS
            match i_, hi_ with
            | 0, _ => exact stepV rfl rfl (execFldAk0 rfl ((hf 1 (by decide)).trans t1)) ⟨s, ⟨_, rfl, rfl⟩, hS, fun _ _ => rfl⟩
            | 1, _ => exact stepV rfl rfl (execLdLI (v := v0) rfl (hv 0 (by omega) _ rfl _ rfl) (ak_at0 (on9 FQ hS))) ⟨s, ⟨_, rfl, rfl⟩, hS, fun _ _ => rfl⟩
            | 2, _ => exact stepV rfl rfl (execMvB rfl ((hf 12 (by decide)).trans t12)) ⟨s, ⟨_, rfl, rfl⟩, hS, fun _ _ => rfl⟩
            | 3, _ =>
              refine stepC rfl rfl (execCall2 Try.func19 (by kernel_rfl) (by kernel_rfl) rfl (hv 1 (by omega) _ rfl _ rfl) (hv 2 (by omega) _ rfl _ rfl)) (ppattern sf (dwF sf cf vf) J n _ _ X (FI.on hS) (by omega) (Fd84.on hS) (by omega)) fun e w' hh => ?_
              obtain ⟨r0_, r1_, he, hk, hb⟩ := hh
              refine ⟨_, he, (r0_, r1_), ⟨_, rfl, rfl⟩, ⟨(hS).trans ((hb).mono (hS).size), own_ints (hk.rows 0 (by omega)) (pc_fits (by omega)), own_ints (hk.rows 1 (by omega)) (po_fits ((Fd84.on hS)).fits)⟩, fun i hi => ?_⟩
              match i, hi with
              | 0, _ => rfl
              | 1, _ => rfl
              | 2, _ => rfl
              | n_ + 3, h_ => omega
            | 4, _ => exact stepV rfl rfl (execMvB rfl (hv 3 (by omega) _ rfl _ rfl)) ⟨s, ⟨_, rfl, rfl⟩, hS, fun _ _ => rfl⟩
            | 5, _ => exact stepV rfl rfl (execExtT rfl (hv 4 (by omega) _ rfl _ rfl) rfl) ⟨s, ⟨_, rfl, rfl⟩, hS, fun _ _ => rfl⟩
            | 6, _ => exact stepV rfl rfl (execExtT rfl (hv 4 (by omega) _ rfl _ rfl) rfl) ⟨s, ⟨_, rfl, rfl⟩, hS, fun _ _ => rfl⟩
            | 7, _ => exact stepV rfl rfl (execExtT rfl (hv 4 (by omega) _ rfl _ rfl) rfl) ⟨s, ⟨_, rfl, rfl⟩, hS, fun _ _ => rfl⟩
            | 8, _ => exact stepV rfl rfl (execAsgB rfl (hv 5 (by omega) _ rfl _ rfl)) ⟨s, ⟨_, rfl, rfl⟩, hS, fun _ _ => rfl⟩
            | 9, _ => exact stepV rfl rfl (execAsgB rfl (hv 6 (by omega) _ rfl _ rfl)) ⟨s, ⟨_, rfl, rfl⟩, hS, fun _ _ => rfl⟩
            | 10, _ => exact stepV rfl rfl (execAsgB rfl (hv 7 (by omega) _ rfl _ rfl)) ⟨s, ⟨_, rfl, rfl⟩, hS, fun _ _ => rfl⟩
            | k_ + 11, h_ => exact absurd h_ (by simp)
          rintro ⟨a134, o134⟩ a X29 h1 h2 h3 h4 hS
          replace hS : Below X24.heap.size X24 X29 ∧ (SliceI X29 a134 (zl (paE sf J (dwF sf cf vf) n) n) (pcF sf J (dwF sf cf vf))) ∧ (SliceI X29 o134 (zl (paE sf J (dwF sf cf vf) n) n) (poF sf J (dwF sf cf vf) n)) := hS
          obtain ⟨bX, Fa134, Fo134⟩ := hS
          replace t1 := (h3 1 (by decide)).trans t1
          have t3 : a.eval (.tmp 3) = a134 := h4 8 _ rfl _ rfl
          have t4 : a.eval (.tmp 4) = o134 := h4 9 _ rfl _ rfl
          have t5 : a.eval (.tmp 5) = .int .i64 ((paE sf J (dwF sf cf vf) n : Nat) : Int) := h4 10 _ rfl _ rfl
          replace FI := (FI.on bX)
          replace FF := (FF.on bX)
          replace FC := (FC.on bX)
          replace FO := (FO.on bX)
          replace FQ := (on9 FQ bX)
          replace Fa23 := (Fa23.on bX)
          replace Fo23 := (Fo23.on bX)
          replace Fd84 := (Fd84.on bX)
          have ZX29 := bX.size
          replace BW := BW.trans (bX.mono BW.size)
          clear bX
          replace A := (⟨h1, h2.trans A.2⟩ : a.tmps.size = 152 ∧ a.defers = [])
          clear h1 h2 h3 h4
          clear t12
          rw [paE_ok hpq] at t5
          replace Fa134 : (SliceI X29 a134 (n) (pcF sf J (dwF sf cf vf))) := (by have h_ := Fa134; rw [paE_ok hpq, zl_ok] at h_; exact h_)
          replace Fo134 : (SliceI X29 o134 (n) (poF sf J (dwF sf cf vf) n)) := (by have h_ := Fo134; rw [paE_ok hpq, zl_ok] at h_; exact h_)
          refine wp_seq ?_
          refine wp_region_sq (σ := Unit) 152 [(0, 138), (1, 139), (2, 140), (3, 141), (4, 142), (5, 143), (6, 144), (7, 145), (8, 146), (9, 147), (10, 148), (11, 149), (12, 150), (13, 151), (14, 2)] (fun j_ s X => match j_ with | 0 => Below X29.heap.size X29 X | 1 => Below X29.heap.size X29 X | 2 => Below X29.heap.size X29 X | 3 => Below X29.heap.size X29 X | 4 => Below X29.heap.size X29 X | 5 => Below X29.heap.size X29 X | 6 => Below X29.heap.size X29 X | 7 => Below X29.heap.size X29 X | 8 => Below X29.heap.size X29 X | 9 => Below X29.heap.size X29 X | 10 => Below X29.heap.size X29 X | 11 => Below X29.heap.size X29 X | 12 => Below X29.heap.size X29 X | 13 => Below X29.heap.size X29 X | 14 => Below X29.heap.size X29 X | _ => Below X29.heap.size X29 X) (fun s => fun i_ => match i_ with | 0 => .int .i64 ((0 : Nat) : Int) | 1 => .bool true | 2 => .bool true | 3 => a134 | 4 => .pointer (some ⟨gq, 2, none⟩) | 5 => v2 | 6 => .bool true | 7 => .bool true | 8 => .bool true | 9 => o134 | 10 => .pointer (some ⟨gq, 3, none⟩) | 11 => v3 | 12 => .bool true | 13 => .bool true | 14 => .bool true | _ => undef) () A.1 (by kernel_rfl) (by decide) (by decide) (Below.refl _ _) ?_ ?_
          · intro i_ hi_ s a X hf hv hn hS
            match i_, hi_ with
            | 0, _ => exact stepV rfl rfl (execMvB rfl ((hf 5 (by decide)).trans t5)) ⟨s, ⟨_, rfl, rfl⟩, hS, fun _ _ => rfl⟩
            | 1, _ => exact stepV rfl rfl (execDec (execEqE (p := 0) (q := 0) rfl (hv 0 (by omega) _ rfl _ rfl) rfl) (decide_eq_true (by decide))) ⟨s, ⟨_, rfl, rfl⟩, hS, fun _ _ => rfl⟩
            | 2, _ => exact stepV rfl rfl (execMvB rfl (hv 1 (by omega) _ rfl _ rfl)) ⟨s, ⟨_, rfl, rfl⟩, hS, fun _ _ => rfl⟩
            | 3, _ => exact stepV rfl (wantedOf rfl (yieldedAt rfl rfl (show a.eval (.tmp 140) = .bool true from (hv 2 (by omega) _ rfl _ rfl)))) (execMvB rfl ((hf 3 (by decide)).trans t3)) ⟨s, ⟨_, rfl, rfl⟩, hS, fun _ _ => rfl⟩
            | 4, _ => exact stepV rfl (wantedOf rfl (yieldedAt rfl rfl (show a.eval (.tmp 140) = .bool true from (hv 2 (by omega) _ rfl _ rfl)))) (execFldAk2 rfl ((hf 1 (by decide)).trans t1)) ⟨s, ⟨_, rfl, rfl⟩, hS, fun _ _ => rfl⟩
            | 5, _ => exact stepV rfl (wantedOf rfl (yieldedAt rfl rfl (show a.eval (.tmp 140) = .bool true from (hv 2 (by omega) _ rfl _ rfl)))) (execLdLI (v := v2) rfl (hv 4 (by omega) _ rfl _ rfl) (ak_at2 (on9 FQ hS))) ⟨s, ⟨_, rfl, rfl⟩, hS, fun _ _ => rfl⟩
            | 6, _ => exact stepC rfl (wantedOf rfl (yieldedAt rfl rfl (show a.eval (.tmp 140) = .bool true from (hv 2 (by omega) _ rfl _ rfl)))) (execCall2 Try.func14 (by kernel_rfl) (by kernel_rfl) rfl (hv 3 (by omega) _ rfl _ rfl) (hv 5 (by omega) _ rfl _ rfl)) (same_t _ _ (n) _ _ X (Fa134.on hS) (FC.on hS) (hb1) (by omega)) fun e w' hh => ⟨_, hh.1, s, ⟨_, rfl, rfl⟩, (hS).trans ((hh.2).mono (hS).size), fun _ _ => rfl⟩
            | 7, _ => exact stepV rfl rfl (execPickT rfl (hv 2 (by omega) _ rfl _ rfl) (hv 6 (by omega) _ rfl _ rfl)) ⟨s, ⟨_, rfl, rfl⟩, hS, fun _ _ => rfl⟩
            | 8, _ => exact stepV rfl rfl (execMvB rfl (hv 7 (by omega) _ rfl _ rfl)) ⟨s, ⟨_, rfl, rfl⟩, hS, fun _ _ => rfl⟩
            | 9, _ => exact stepV rfl (wantedOf rfl (yieldedAt rfl rfl (show a.eval (.tmp 146) = .bool true from (hv 8 (by omega) _ rfl _ rfl)))) (execMvB rfl ((hf 4 (by decide)).trans t4)) ⟨s, ⟨_, rfl, rfl⟩, hS, fun _ _ => rfl⟩
            | 10, _ => exact stepV rfl (wantedOf rfl (yieldedAt rfl rfl (show a.eval (.tmp 146) = .bool true from (hv 8 (by omega) _ rfl _ rfl)))) (execFldAk3 rfl ((hf 1 (by decide)).trans t1)) ⟨s, ⟨_, rfl, rfl⟩, hS, fun _ _ => rfl⟩
            | 11, _ => exact stepV rfl (wantedOf rfl (yieldedAt rfl rfl (show a.eval (.tmp 146) = .bool true from (hv 8 (by omega) _ rfl _ rfl)))) (execLdLI (v := v3) rfl (hv 10 (by omega) _ rfl _ rfl) (ak_at3 (on9 FQ hS))) ⟨s, ⟨_, rfl, rfl⟩, hS, fun _ _ => rfl⟩
            | 12, _ => exact stepC rfl (wantedOf rfl (yieldedAt rfl rfl (show a.eval (.tmp 146) = .bool true from (hv 8 (by omega) _ rfl _ rfl)))) (execCall2 Try.func14 (by kernel_rfl) (by kernel_rfl) rfl (hv 9 (by omega) _ rfl _ rfl) (hv 11 (by omega) _ rfl _ rfl)) (same_t _ _ (n) _ _ X (Fo134.on hS) (FO.on hS) (hb2) (by omega)) fun e w' hh => ⟨_, hh.1, s, ⟨_, rfl, rfl⟩, (hS).trans ((hh.2).mono (hS).size), fun _ _ => rfl⟩
            | 13, _ => exact stepV rfl rfl (execPickT rfl (hv 8 (by omega) _ rfl _ rfl) (hv 12 (by omega) _ rfl _ rfl)) ⟨s, ⟨_, rfl, rfl⟩, hS, fun _ _ => rfl⟩
            | 14, _ => exact stepV rfl rfl (execAsgB rfl (hv 13 (by omega) _ rfl _ rfl)) ⟨s, ⟨_, rfl, rfl⟩, hS, fun _ _ => rfl⟩
            | k_ + 15, h_ => exact absurd h_ (by simp)
          rintro _ a X30 h1 h2 h3 h4 hS
          replace hS : Below X29.heap.size X29 X30 := hS
          have bX := hS
          clear hS
          have t2 : a.eval (.tmp 2) = .bool true := h4 14 _ rfl _ rfl
          replace FI := (FI.on bX)
          replace FF := (FF.on bX)
          replace FC := (FC.on bX)
          replace FO := (FO.on bX)
          replace FQ := (on9 FQ bX)
          replace Fa23 := (Fa23.on bX)
          replace Fo23 := (Fo23.on bX)
          replace Fd84 := (Fd84.on bX)
          replace Fa134 := (Fa134.on bX)
          replace Fo134 := (Fo134.on bX)
          have ZX30 := bX.size
          replace BW := BW.trans (bX.mono BW.size)
          clear bX
          replace A := (⟨h1, h2.trans A.2⟩ : a.tmps.size = 152 ∧ a.defers = [])
          clear h1 h2 h3 h4
          clear t1 t3 t4 t5
          refine wp_ret ?_
          repeat (first | refine ret_in ?_ | refine ret_then ?_)
          refine bodyPost_ret (results_tmp rfl _ _ _) A.2 ⟨?_, BW⟩
          show Ending.returned (a.eval (.tmp 2)) = _
          rw [t2]
      · rw [drE_no h2] at t13
        replace Fd84 : (SliceI X20 d84 (0) (dwF sf cf vf)) := (by have h_ := Fd84; rw [drE_no h2, zl_no (by decide)] at h_; exact h_)
        refine wp_seq ?_
        refine wp_seq ?_
        refine wp_region_sq (σ := Unit) 152 [(0, 87), (1, 88)] (fun j_ s X => match j_ with | 0 => Below X20.heap.size X20 X | 1 => Below X20.heap.size X20 X | _ => Below X20.heap.size X20 X) (fun s => fun i_ => match i_ with | 0 => .int .i64 ((2 : Nat) : Int) | 1 => .bool true | _ => undef) () A.1 (by kernel_rfl) (by decide) (by decide) (Below.refl _ _) ?_ ?_
        · intro i_ hi_ s a X hf hv hn hS
          match i_, hi_ with
          | 0, _ => exact stepV rfl rfl (execMvB rfl ((hf 13 (by decide)).trans t13)) ⟨s, ⟨_, rfl, rfl⟩, hS, fun _ _ => rfl⟩
          | 1, _ => exact stepV rfl rfl (execDec (execNeE (p := 2) (q := 0) rfl (hv 0 (by omega) _ rfl _ rfl) rfl) (decide_eq_true (by decide))) ⟨s, ⟨_, rfl, rfl⟩, hS, fun _ _ => rfl⟩
          | k_ + 2, h_ => exact absurd h_ (by simp)
        rintro _ a X21 h1 h2 h3 h4 hS
        replace hS : Below X20.heap.size X20 X21 := hS
        have bX := hS
        clear hS
        replace t3 := (h3 3 (by decide)).trans t3
        replace t4 := (h3 4 (by decide)).trans t4
        replace t5 := (h3 5 (by decide)).trans t5
        replace t12 := (h3 12 (by decide)).trans t12
        replace t13 := (h3 13 (by decide)).trans t13
        have t88 : a.eval (.tmp 88) = .bool true := h4 1 _ rfl _ rfl
        replace FI := (FI.on bX)
        replace FF := (FF.on bX)
        replace FC := (FC.on bX)
        replace FO := (FO.on bX)
        replace FQ := (on9 FQ bX)
        replace Fa23 := (Fa23.on bX)
        replace Fo23 := (Fo23.on bX)
        replace Fd84 := (Fd84.on bX)
        have ZX21 := bX.size
        replace BW := BW.trans (bX.mono BW.size)
        clear bX
        replace A := (⟨h1, h2.trans A.2⟩ : a.tmps.size = 152 ∧ a.defers = [])
        clear h1 h2 h3 h4
        clear t1
        refine wp_cond_true t88 ?_
        clear t88
        refine wp_seq ?_
        refine wp_region_sq (σ := Unit) 152 [(0, 89), (1, 90), (2, 91), (3, 92), (4, 93), (5, 94), (6, 95), (7, 96), (8, 97), (9, 98), (10, 99), (11, 100), (12, 101), (13, 102), (14, 103), (15, 104), (16, 105), (17, 106), (18, 107), (19, 108), (20, 109), (21, 110), (22, 111), (23, 2)] (fun j_ s X => match j_ with | 0 => Below X21.heap.size X21 X | 1 => Below X21.heap.size X21 X | 2 => Below X21.heap.size X21 X | 3 => Below X21.heap.size X21 X | 4 => Below X21.heap.size X21 X | 5 => Below X21.heap.size X21 X | 6 => Below X21.heap.size X21 X | 7 => Below X21.heap.size X21 X | 8 => Below X21.heap.size X21 X | 9 => Below X21.heap.size X21 X | 10 => Below X21.heap.size X21 X | 11 => Below X21.heap.size X21 X | 12 => Below X21.heap.size X21 X | 13 => Below X21.heap.size X21 X | 14 => Below X21.heap.size X21 X | 15 => Below X21.heap.size X21 X | 16 => Below X21.heap.size X21 X | 17 => Below X21.heap.size X21 X | 18 => Below X21.heap.size X21 X | 19 => Below X21.heap.size X21 X | 20 => Below X21.heap.size X21 X | 21 => Below X21.heap.size X21 X | 22 => Below X21.heap.size X21 X | 23 => Below X21.heap.size X21 X | _ => Below X21.heap.size X21 X) (fun s => fun i_ => match i_ with | 0 => .int .i64 ((2 : Nat) : Int) | 1 => .bool true | 2 => .bool true | 3 => d84 | 4 => .int .i64 ((0 : Nat) : Int) | 5 => .bool true | 6 => .bool true | 7 => .bool true | 8 => .int .i64 ((0 : Nat) : Int) | 9 => .bool true | 10 => .bool true | 11 => undef | 12 => undef | 13 => undef | 14 => undef | 15 => undef | 16 => undef | 17 => undef | 18 => undef | 19 => undef | 20 => undef | 21 => .bool true | 22 => .bool true | 23 => .bool true | _ => undef) () A.1 (by kernel_rfl) (by decide) (by decide) (Below.refl _ _) ?_ ?_
        · intro i_ hi_ s a X hf hv hn hS
          match i_, hi_ with
          | 0, _ => exact stepV rfl rfl (execMvB rfl ((hf 13 (by decide)).trans t13)) ⟨s, ⟨_, rfl, rfl⟩, hS, fun _ _ => rfl⟩
          | 1, _ => exact stepV rfl rfl (execDec (execEqE (p := 2) (q := 2) rfl (hv 0 (by omega) _ rfl _ rfl) rfl) (decide_eq_true (by decide))) ⟨s, ⟨_, rfl, rfl⟩, hS, fun _ _ => rfl⟩
          | 2, _ => exact stepV rfl rfl (execMvB rfl (hv 1 (by omega) _ rfl _ rfl)) ⟨s, ⟨_, rfl, rfl⟩, hS, fun _ _ => rfl⟩
          | 3, _ => exact stepV rfl (wantedOf rfl (yieldedAt rfl rfl (show a.eval (.tmp 91) = .bool true from (hv 2 (by omega) _ rfl _ rfl)))) (execMvB rfl ((hf 12 (by decide)).trans t12)) ⟨s, ⟨_, rfl, rfl⟩, hS, fun _ _ => rfl⟩
          | 4, _ => exact stepV rfl (wantedOf rfl (yieldedAt rfl rfl (show a.eval (.tmp 91) = .bool true from (hv 2 (by omega) _ rfl _ rfl)))) (execLenI (len := 0) rfl (hv 3 (by omega) _ rfl _ rfl) ((Fd84.on hS)).shp) ⟨s, ⟨_, rfl, rfl⟩, hS, fun _ _ => rfl⟩
          | 5, _ => exact stepV rfl (wantedOf rfl (yieldedAt rfl rfl (show a.eval (.tmp 91) = .bool true from (hv 2 (by omega) _ rfl _ rfl)))) (execDec (execEqN (p := 0) (q := 0) rfl (hv 4 (by omega) _ rfl _ rfl) rfl) (decide_eq_true (by decide))) ⟨s, ⟨_, rfl, rfl⟩, hS, fun _ _ => rfl⟩
          | 6, _ => exact stepV rfl rfl (execPickT rfl (hv 2 (by omega) _ rfl _ rfl) (hv 5 (by omega) _ rfl _ rfl)) ⟨s, ⟨_, rfl, rfl⟩, hS, fun _ _ => rfl⟩
          | 7, _ => exact stepV rfl rfl (execMvB rfl (hv 6 (by omega) _ rfl _ rfl)) ⟨s, ⟨_, rfl, rfl⟩, hS, fun _ _ => rfl⟩
          | 8, _ => exact stepV rfl (wantedOf rfl (yieldedAt rfl rfl (show a.eval (.tmp 96) = .bool true from (hv 7 (by omega) _ rfl _ rfl)))) (execMvB rfl ((hf 5 (by decide)).trans t5)) ⟨s, ⟨_, rfl, rfl⟩, hS, fun _ _ => rfl⟩
          | 9, _ => exact stepV rfl (wantedOf rfl (yieldedAt rfl rfl (show a.eval (.tmp 96) = .bool true from (hv 7 (by omega) _ rfl _ rfl)))) (execDec (execEqE (p := 0) (q := 0) rfl (hv 8 (by omega) _ rfl _ rfl) rfl) (decide_eq_true (by decide))) ⟨s, ⟨_, rfl, rfl⟩, hS, fun _ _ => rfl⟩
          | 10, _ => exact stepV rfl (wantedOf rfl (yieldedAt rfl rfl (show a.eval (.tmp 96) = .bool true from (hv 7 (by omega) _ rfl _ rfl)))) (execMvB rfl (hv 9 (by omega) _ rfl _ rfl)) ⟨s, ⟨_, rfl, rfl⟩, hS, fun _ _ => rfl⟩
          | 11, _ => exact stepU rfl (unwantedOf rfl (yieldedAt rfl rfl (show a.eval (.tmp 99) = .bool (!false) from (hv 10 (by omega) _ rfl _ rfl)))) ⟨s, ⟨_, rfl, rfl⟩, hS, fun _ _ => rfl⟩
          | 12, _ => exact stepU rfl (unwantedOf rfl (yieldedAt rfl rfl (show a.eval (.tmp 99) = .bool (!false) from (hv 10 (by omega) _ rfl _ rfl)))) ⟨s, ⟨_, rfl, rfl⟩, hS, fun _ _ => rfl⟩
          | 13, _ => exact stepU rfl (unwantedOf rfl (yieldedAt rfl rfl (show a.eval (.tmp 99) = .bool (!false) from (hv 10 (by omega) _ rfl _ rfl)))) ⟨s, ⟨_, rfl, rfl⟩, hS, fun _ _ => rfl⟩
          | 14, _ => exact stepU rfl (unwantedNo rfl (yieldedNo rfl rfl (show a.eval (.tmp 102) = undef from (hv 13 (by omega) _ rfl _ rfl)))) ⟨s, ⟨_, rfl, rfl⟩, hS, fun _ _ => rfl⟩
          | 15, _ => exact stepU rfl (unwantedNo rfl (yieldedNo rfl rfl (show a.eval (.tmp 102) = undef from (hv 13 (by omega) _ rfl _ rfl)))) ⟨s, ⟨_, rfl, rfl⟩, hS, fun _ _ => rfl⟩
          | 16, _ => exact stepU rfl (unwantedNo rfl (yieldedNo rfl rfl (show a.eval (.tmp 102) = undef from (hv 13 (by omega) _ rfl _ rfl)))) ⟨s, ⟨_, rfl, rfl⟩, hS, fun _ _ => rfl⟩
          | 17, _ => exact stepU rfl (unwantedNo rfl (yieldedNo rfl rfl (show a.eval (.tmp 102) = undef from (hv 13 (by omega) _ rfl _ rfl)))) ⟨s, ⟨_, rfl, rfl⟩, hS, fun _ _ => rfl⟩
          | 18, _ => exact stepU rfl (unwantedNo rfl (yieldedNo rfl rfl (show a.eval (.tmp 102) = undef from (hv 13 (by omega) _ rfl _ rfl)))) ⟨s, ⟨_, rfl, rfl⟩, hS, fun _ _ => rfl⟩
          | 19, _ => exact stepU rfl (unwantedNo rfl (yieldedNo rfl rfl (show a.eval (.tmp 102) = undef from (hv 13 (by omega) _ rfl _ rfl)))) ⟨s, ⟨_, rfl, rfl⟩, hS, fun _ _ => rfl⟩
          | 20, _ => exact stepU rfl (unwantedOf rfl (yieldedAt rfl rfl (show a.eval (.tmp 99) = .bool (!false) from (hv 10 (by omega) _ rfl _ rfl)))) ⟨s, ⟨_, rfl, rfl⟩, hS, fun _ _ => rfl⟩
          | 21, _ => exact stepV rfl (wantedOf rfl (yieldedAt rfl rfl (show a.eval (.tmp 96) = .bool true from (hv 7 (by omega) _ rfl _ rfl)))) (execPickT rfl (hv 10 (by omega) _ rfl _ rfl) rfl) ⟨s, ⟨_, rfl, rfl⟩, hS, fun _ _ => rfl⟩
          | 22, _ => exact stepV rfl rfl (execPickT rfl (hv 7 (by omega) _ rfl _ rfl) (hv 21 (by omega) _ rfl _ rfl)) ⟨s, ⟨_, rfl, rfl⟩, hS, fun _ _ => rfl⟩
          | 23, _ => exact stepV rfl rfl (execAsgB rfl (hv 22 (by omega) _ rfl _ rfl)) ⟨s, ⟨_, rfl, rfl⟩, hS, fun _ _ => rfl⟩
          | k_ + 24, h_ => exact absurd h_ (by simp)
        rintro _ a X22 h1 h2 h3 h4 hS
        replace hS : Below X21.heap.size X21 X22 := hS
        have bX := hS
        clear hS
        have t2 : a.eval (.tmp 2) = .bool true := h4 23 _ rfl _ rfl
        replace FI := (FI.on bX)
        replace FF := (FF.on bX)
        replace FC := (FC.on bX)
        replace FO := (FO.on bX)
        replace FQ := (on9 FQ bX)
        replace Fa23 := (Fa23.on bX)
        replace Fo23 := (Fo23.on bX)
        replace Fd84 := (Fd84.on bX)
        have ZX22 := bX.size
        replace BW := BW.trans (bX.mono BW.size)
        clear bX
        replace A := (⟨h1, h2.trans A.2⟩ : a.tmps.size = 152 ∧ a.defers = [])
        clear h1 h2 h3 h4
        clear t3 t4 t5 t12 t13
        refine wp_ret ?_
        repeat (first | refine ret_in ?_ | refine ret_then ?_)
        refine bodyPost_ret (results_tmp rfl _ _ _) A.2 ⟨?_, BW⟩
        show Ending.returned (a.eval (.tmp 2)) = _
        rw [t2]
  · rw [paE_no h1] at t5
    replace Fa23 : (SliceI X3 a23 (0) (pcF sf J df)) := (by have h_ := Fa23; rw [paE_no h1, zl_no (by decide)] at h_; exact h_)
    replace Fo23 : (SliceI X3 o23 (0) (poF sf J df m)) := (by have h_ := Fo23; rw [paE_no h1, zl_no (by decide)] at h_; exact h_)
    refine wp_seq ?_
    refine wp_seq ?_
    refine wp_region_sq (σ := Unit) 152 [(0, 27), (1, 28)] (fun j_ s X => match j_ with | 0 => Below X3.heap.size X3 X | 1 => Below X3.heap.size X3 X | _ => Below X3.heap.size X3 X) (fun s => fun i_ => match i_ with | 0 => .int .i64 ((2 : Nat) : Int) | 1 => .bool false | _ => undef) () A.1 (by kernel_rfl) (by decide) (by decide) (Below.refl _ _) ?_ ?_
    · intro i_ hi_ s a X hf hv hn hS
      match i_, hi_ with
      | 0, _ => exact stepV rfl rfl (execMvB rfl ((hf 5 (by decide)).trans t5)) ⟨s, ⟨_, rfl, rfl⟩, hS, fun _ _ => rfl⟩
      | 1, _ => exact stepV rfl rfl (execDec (execEqE (p := 2) (q := 0) rfl (hv 0 (by omega) _ rfl _ rfl) rfl) (decide_eq_false (by decide))) ⟨s, ⟨_, rfl, rfl⟩, hS, fun _ _ => rfl⟩
      | k_ + 2, h_ => exact absurd h_ (by simp)
    rintro _ a X4 h1 h2 h3 h4 hS
    replace hS : Below X3.heap.size X3 X4 := hS
    have bX := hS
    clear hS
    replace t1 := (h3 1 (by decide)).trans t1
    replace t3 := (h3 3 (by decide)).trans t3
    replace t4 := (h3 4 (by decide)).trans t4
    replace t5 := (h3 5 (by decide)).trans t5
    have t28 : a.eval (.tmp 28) = .bool false := h4 1 _ rfl _ rfl
    replace FI := (FI.on bX)
    replace FF := (FF.on bX)
    replace FC := (FC.on bX)
    replace FO := (FO.on bX)
    replace FQ := (on9 FQ bX)
    replace Fa23 := (Fa23.on bX)
    replace Fo23 := (Fo23.on bX)
    have ZX4 := bX.size
    replace BW := BW.trans (bX.mono BW.size)
    clear bX
    replace A := (⟨h1, h2.trans A.2⟩ : a.tmps.size = 152 ∧ a.defers = [])
    clear h1 h2 h3 h4
    refine wp_cond_false t28 ?_
    refine wp_skip ?_
    clear t28
    refine wp_seq ?_
    refine wp_region_sq (σ := Value) 152 [(0, 78), (1, 79), (2, 80), (3, 81), (4, 82), (5, 83), (6, 84), (7, 77), (8, 85), (9, 86), (10, 12), (11, 13)] (fun j_ s X => match j_ with | 0 => Below X4.heap.size X4 X | 1 => Below X4.heap.size X4 X | 2 => Below X4.heap.size X4 X | 3 => Below X4.heap.size X4 X | 4 => Below X4.heap.size X4 X | 5 => Below X4.heap.size X4 X | 6 => Below X4.heap.size X4 X | 7 => Below X4.heap.size X4 X ∧ (SliceI X s (zl (drE sf J cf n vf k) n) (dwF sf cf vf)) | 8 => Below X4.heap.size X4 X ∧ (SliceI X s (zl (drE sf J cf n vf k) n) (dwF sf cf vf)) | 9 => Below X4.heap.size X4 X ∧ (SliceI X s (zl (drE sf J cf n vf k) n) (dwF sf cf vf)) | 10 => Below X4.heap.size X4 X ∧ (SliceI X s (zl (drE sf J cf n vf k) n) (dwF sf cf vf)) | 11 => Below X4.heap.size X4 X ∧ (SliceI X s (zl (drE sf J cf n vf k) n) (dwF sf cf vf)) | _ => Below X4.heap.size X4 X ∧ (SliceI X s (zl (drE sf J cf n vf k) n) (dwF sf cf vf))) (fun s => fun i_ => match i_ with | 0 => .pointer (some ⟨gq, 0, none⟩) | 1 => v0 | 2 => .pointer (some ⟨gq, 2, none⟩) | 3 => v2 | 4 => .pointer (some ⟨gq, 3, none⟩) | 5 => v3 | 6 => .tuple #[s, .int .i64 ((drE sf J cf n vf k : Nat) : Int)] | 7 => .tuple #[s, .int .i64 ((drE sf J cf n vf k : Nat) : Int)] | 8 => s | 9 => .int .i64 ((drE sf J cf n vf k : Nat) : Int) | 10 => s | 11 => .int .i64 ((drE sf J cf n vf k : Nat) : Int) | _ => undef) undef A.1 (by kernel_rfl) (by decide) (by decide) (Below.refl _ _) ?_ ?_
    · intro i_ hi_ s a X hf hv hn hS
      match i_, hi_ with
      | 0, _ => exact stepV rfl rfl (execFldAk0 rfl ((hf 1 (by decide)).trans t1)) ⟨s, ⟨_, rfl, rfl⟩, hS, fun _ _ => rfl⟩
      | 1, _ => exact stepV rfl rfl (execLdLI (v := v0) rfl (hv 0 (by omega) _ rfl _ rfl) (ak_at0 (on9 FQ hS))) ⟨s, ⟨_, rfl, rfl⟩, hS, fun _ _ => rfl⟩
      | 2, _ => exact stepV rfl rfl (execFldAk2 rfl ((hf 1 (by decide)).trans t1)) ⟨s, ⟨_, rfl, rfl⟩, hS, fun _ _ => rfl⟩
      | 3, _ => exact stepV rfl rfl (execLdLI (v := v2) rfl (hv 2 (by omega) _ rfl _ rfl) (ak_at2 (on9 FQ hS))) ⟨s, ⟨_, rfl, rfl⟩, hS, fun _ _ => rfl⟩
      | 4, _ => exact stepV rfl rfl (execFldAk3 rfl ((hf 1 (by decide)).trans t1)) ⟨s, ⟨_, rfl, rfl⟩, hS, fun _ _ => rfl⟩
      | 5, _ => exact stepV rfl rfl (execLdLI (v := v3) rfl (hv 4 (by omega) _ rfl _ rfl) (ak_at3 (on9 FQ hS))) ⟨s, ⟨_, rfl, rfl⟩, hS, fun _ _ => rfl⟩
      | 6, _ =>
        refine stepC rfl rfl (execCall3 Try.func20 (by kernel_rfl) (by kernel_rfl) rfl (hv 1 (by omega) _ rfl _ rfl) (hv 3 (by omega) _ rfl _ rfl) (hv 5 (by omega) _ rfl _ rfl)) (pdraws12 sf cf vf J n k _ _ _ X (FI.on hS) (by omega) (FC.on hS) (by omega) (FO.on hS)) fun e w' hh => ?_
        obtain ⟨r0_, he, hk, hb⟩ := hh
        refine ⟨_, he, r0_, ⟨_, rfl, rfl⟩, ⟨(hS).trans ((hb).mono (hS).size), own_ints hk (dw_fits (by omega))⟩, fun i hi => ?_⟩
        match i, hi with
        | 0, _ => rfl
        | 1, _ => rfl
        | 2, _ => rfl
        | 3, _ => rfl
        | 4, _ => rfl
        | 5, _ => rfl
        | n_ + 6, h_ => omega
      | 7, _ => exact stepV rfl rfl (execMvB rfl (hv 6 (by omega) _ rfl _ rfl)) ⟨s, ⟨_, rfl, rfl⟩, hS, fun _ _ => rfl⟩
      | 8, _ => exact stepV rfl rfl (execExtT rfl (hv 7 (by omega) _ rfl _ rfl) rfl) ⟨s, ⟨_, rfl, rfl⟩, hS, fun _ _ => rfl⟩
      | 9, _ => exact stepV rfl rfl (execExtT rfl (hv 7 (by omega) _ rfl _ rfl) rfl) ⟨s, ⟨_, rfl, rfl⟩, hS, fun _ _ => rfl⟩
      | 10, _ => exact stepV rfl rfl (execAsgB rfl (hv 8 (by omega) _ rfl _ rfl)) ⟨s, ⟨_, rfl, rfl⟩, hS, fun _ _ => rfl⟩
      | 11, _ => exact stepV rfl rfl (execAsgB rfl (hv 9 (by omega) _ rfl _ rfl)) ⟨s, ⟨_, rfl, rfl⟩, hS, fun _ _ => rfl⟩
      | k_ + 12, h_ => exact absurd h_ (by simp)
    rintro d84 a X20 h1 h2 h3 h4 hS
    replace hS : Below X4.heap.size X4 X20 ∧ (SliceI X20 d84 (zl (drE sf J cf n vf k) n) (dwF sf cf vf)) := hS
    obtain ⟨bX, Fd84⟩ := hS
    replace t1 := (h3 1 (by decide)).trans t1
    replace t3 := (h3 3 (by decide)).trans t3
    replace t4 := (h3 4 (by decide)).trans t4
    replace t5 := (h3 5 (by decide)).trans t5
    have t12 : a.eval (.tmp 12) = d84 := h4 10 _ rfl _ rfl
    have t13 : a.eval (.tmp 13) = .int .i64 ((drE sf J cf n vf k : Nat) : Int) := h4 11 _ rfl _ rfl
    replace FI := (FI.on bX)
    replace FF := (FF.on bX)
    replace FC := (FC.on bX)
    replace FO := (FO.on bX)
    replace FQ := (on9 FQ bX)
    replace Fa23 := (Fa23.on bX)
    replace Fo23 := (Fo23.on bX)
    have ZX20 := bX.size
    replace BW := BW.trans (bX.mono BW.size)
    clear bX
    replace A := (⟨h1, h2.trans A.2⟩ : a.tmps.size = 152 ∧ a.defers = [])
    clear h1 h2 h3 h4
    by_cases h2 : drQ sf J cf n vf k = true
    · rw [drE_ok h2] at t13
      obtain ⟨hs2, hst2, hkS, _⟩ := drQ_iff.1 h2
      have hnS := stQ_len hst2
      obtain rfl : n = k := by omega
      obtain ⟨hpq, hb1, hb2⟩ := pat_dr h2
      replace Fd84 : (SliceI X20 d84 (n) (dwF sf cf vf)) := (by have h_ := Fd84; rw [drE_ok h2, zl_ok] at h_; exact h_)
      refine wp_seq ?_
      refine wp_seq ?_
      refine wp_region_sq (σ := Unit) 152 [(0, 87), (1, 88)] (fun j_ s X => match j_ with | 0 => Below X20.heap.size X20 X | 1 => Below X20.heap.size X20 X | _ => Below X20.heap.size X20 X) (fun s => fun i_ => match i_ with | 0 => .int .i64 ((0 : Nat) : Int) | 1 => .bool false | _ => undef) () A.1 (by kernel_rfl) (by decide) (by decide) (Below.refl _ _) ?_ ?_
      · intro i_ hi_ s a X hf hv hn hS
        match i_, hi_ with
        | 0, _ => exact stepV rfl rfl (execMvB rfl ((hf 13 (by decide)).trans t13)) ⟨s, ⟨_, rfl, rfl⟩, hS, fun _ _ => rfl⟩
        | 1, _ => exact stepV rfl rfl (execDec (execNeE (p := 0) (q := 0) rfl (hv 0 (by omega) _ rfl _ rfl) rfl) (decide_eq_false (by decide))) ⟨s, ⟨_, rfl, rfl⟩, hS, fun _ _ => rfl⟩
        | k_ + 2, h_ => exact absurd h_ (by simp)
      rintro _ a X21 h1 h2 h3 h4 hS
      replace hS : Below X20.heap.size X20 X21 := hS
      have bX := hS
      clear hS
      replace t1 := (h3 1 (by decide)).trans t1
      replace t12 := (h3 12 (by decide)).trans t12
      have t88 : a.eval (.tmp 88) = .bool false := h4 1 _ rfl _ rfl
      replace FI := (FI.on bX)
      replace FF := (FF.on bX)
      replace FC := (FC.on bX)
      replace FO := (FO.on bX)
      replace FQ := (on9 FQ bX)
      replace Fa23 := (Fa23.on bX)
      replace Fo23 := (Fo23.on bX)
      replace Fd84 := (Fd84.on bX)
      have ZX21 := bX.size
      replace BW := BW.trans (bX.mono BW.size)
      clear bX
      replace A := (⟨h1, h2.trans A.2⟩ : a.tmps.size = 152 ∧ a.defers = [])
      clear h1 h2 h3 h4
      clear t3 t4 t5 t13
      refine wp_cond_false t88 ?_
      refine wp_skip ?_
      clear t88
      refine wp_seq ?_
      refine wp_seq ?_
      refine wp_region_sq (σ := Unit) 152 [(0, 112), (1, 113), (2, 114)] (fun j_ s X => match j_ with | 0 => Below X21.heap.size X21 X | 1 => Below X21.heap.size X21 X | 2 => Below X21.heap.size X21 X | _ => Below X21.heap.size X21 X) (fun s => fun i_ => match i_ with | 0 => d84 | 1 => .int .i64 ((n : Nat) : Int) | 2 => .int .i64 ((0 : Nat) : Int) | _ => undef) () A.1 (by kernel_rfl) (by decide) (by decide) (Below.refl _ _) ?_ ?_
      · intro i_ hi_ s a X hf hv hn hS
        match i_, hi_ with
        | 0, _ => exact stepV rfl rfl (execMvB rfl ((hf 12 (by decide)).trans t12)) ⟨s, ⟨_, rfl, rfl⟩, hS, fun _ _ => rfl⟩
        | 1, _ => exact stepV rfl rfl (execLenI (len := n) rfl (hv 0 (by omega) _ rfl _ rfl) ((Fd84.on hS)).shp) ⟨s, ⟨_, rfl, rfl⟩, hS, fun _ _ => rfl⟩
        | 2, _ => exact stepV rfl rfl (execMvB rfl rfl) ⟨s, ⟨_, rfl, rfl⟩, hS, fun _ _ => rfl⟩
        | k_ + 3, h_ => exact absurd h_ (by simp)
      rintro _ a X23 h1 h2 h3 h4 hS
      replace hS : Below X21.heap.size X21 X23 := hS
      have bX := hS
      clear hS
      replace t1 := (h3 1 (by decide)).trans t1
      replace t12 := (h3 12 (by decide)).trans t12
      have t112 : a.eval (.tmp 112) = d84 := h4 0 _ rfl _ rfl
      have t113 : a.eval (.tmp 113) = .int .i64 ((n : Nat) : Int) := h4 1 _ rfl _ rfl
      have t114 : a.eval (.tmp 114) = .int .i64 ((0 : Nat) : Int) := h4 2 _ rfl _ rfl
      replace FI := (FI.on bX)
      replace FF := (FF.on bX)
      replace FC := (FC.on bX)
      replace FO := (FO.on bX)
      replace FQ := (on9 FQ bX)
      replace Fa23 := (Fa23.on bX)
      replace Fo23 := (Fo23.on bX)
      replace Fd84 := (Fd84.on bX)
      have ZX23 := bX.size
      replace BW := BW.trans (bX.mono BW.size)
      clear bX
      replace A := (⟨h1, h2.trans A.2⟩ : a.tmps.size = 152 ∧ a.defers = [])
      clear h1 h2 h3 h4
      have BB : Below X23.heap.size X23 X23 := Below.refl _ _
      refine wp_block ?_
      refine wp_loop (fun a W => ∃ (i : Nat), i ≤ n ∧ (a.tmps.size = 152 ∧ a.defers = []) ∧ a.eval (.tmp 1) = .pointer (some ⟨gq, 0, none⟩) ∧ a.eval (.tmp 12) = d84 ∧ a.eval (.tmp 112) = d84 ∧ a.eval (.tmp 113) = .int .i64 ((n : Nat) : Int) ∧ a.eval (.tmp 114) = .int .i64 ((i : Nat) : Int) ∧ Below X23.heap.size X23 W) (fun a _ => n - (intOf (a.eval (.tmp 114))).toNat) ⟨0, Nat.zero_le _, A, t1, t12, t112, t113, t114, BB⟩ ?_
      clear A t1 t12 t112 t113 t114 BB a
      rintro a XL24 ⟨i, hi, A, t1, t12, t112, t113, t114, BB⟩
      have esi := t114
      refine wp_seq ?_
      refine wp_region_sq (σ := Unit) 152 [(0, 115)] (fun j_ s X => match j_ with | 0 => Below X23.heap.size X23 X | _ => Below X23.heap.size X23 X) (fun s => fun i_ => match i_ with | 0 => .bool (decide (i < n)) | _ => undef) () A.1 (by kernel_rfl) (by decide) (by decide) (BB) ?_ ?_
      · intro i_ hi_ s a X hf hv hn hS
        match i_, hi_ with
        | 0, _ => exact stepV rfl rfl (execLtW (p := i) (q := n) rfl ((hf 114 (by decide)).trans t114) ((hf 113 (by decide)).trans t113)) ⟨s, ⟨_, rfl, rfl⟩, hS, fun _ _ => rfl⟩
        | k_ + 1, h_ => exact absurd h_ (by simp)
      rintro _ a X24 h1 h2 h3 h4 hS
      clear BB
      replace hS : Below X23.heap.size X23 X24 := hS
      have BB := hS
      clear hS
      replace t1 := (h3 1 (by decide)).trans t1
      replace t12 := (h3 12 (by decide)).trans t12
      replace t112 := (h3 112 (by decide)).trans t112
      replace t113 := (h3 113 (by decide)).trans t113
      replace t114 := (h3 114 (by decide)).trans t114
      have t115 : a.eval (.tmp 115) = .bool (decide (i < n)) := h4 0 _ rfl _ rfl
      replace A := (⟨h1, h2.trans A.2⟩ : a.tmps.size = 152 ∧ a.defers = [])
      clear h1 h2 h3 h4
      refine wp_seq ?_
      by_cases lti : i < n
      · rw [decide_eq_true lti] at t115
        refine wp_cond_true t115 ?_
        refine wp_skip ?_
        clear t115
        refine wp_seq ?_
        refine wp_block ?_
        obtain ⟨ddb, ddo, ddc, edd, hddb, hddc⟩ := open_sl Fd84 (by omega)
        have cdd : ∀ k, k < n → ∀ X, Below X23.heap.size X23 X → X.cell? ⟨ddb, ddo + k, none⟩ = some (.int .i64 ((dwF sf cf vf) k)) := fun k hk X hX => by rw [cell_below hX hddb]; exact hddc k hk
        have hdr := faQ_iff.1 (paQ_iff.1 hpq).2.2 i lti
        obtain ⟨w, ew⟩ : ∃ w : Nat, dwF sf cf vf i = w := ⟨(dwF sf cf vf i).toNat, by omega⟩
        refine wp_seq ?_
        refine wp_region_sq (σ := Unit) 152 [(0, 116), (1, 117), (2, 118), (3, 14), (4, 15)] (fun j_ s X => match j_ with | 0 => Below X23.heap.size X23 X | 1 => Below X23.heap.size X23 X | 2 => Below X23.heap.size X23 X | 3 => Below X23.heap.size X23 X | 4 => Below X23.heap.size X23 X | _ => Below X23.heap.size X23 X) (fun s => fun i_ => match i_ with | 0 => .int .i64 ((i : Nat) : Int) | 1 => .pointer (some ⟨ddb, ddo + i, none⟩) | 2 => .int .i64 ((w : Nat) : Int) | 3 => .int .i64 ((i : Nat) : Int) | 4 => .int .i64 ((w : Nat) : Int) | _ => undef) () A.1 (by kernel_rfl) (by decide) (by decide) (BB) ?_ ?_
        · intro i_ hi_ s a X hf hv hn hS
          match i_, hi_ with
          | 0, _ => exact stepV rfl rfl (execMvB rfl ((hf 114 (by decide)).trans t114)) ⟨s, ⟨_, rfl, rfl⟩, hS, fun _ _ => rfl⟩
          | 1, _ => exact stepV rfl rfl (execIdxN (k := i) rfl (((hf 112 (by decide)).trans t112).trans edd) ((hf 114 (by decide)).trans t114) lti) ⟨s, ⟨_, rfl, rfl⟩, hS, fun _ _ => rfl⟩
          | 2, _ => exact stepV rfl rfl (execLd3 rfl (hv 1 (by omega) _ rfl _ rfl) ((cdd i lti X hS).trans (by rw [ew]))) ⟨s, ⟨_, rfl, rfl⟩, hS, fun _ _ => rfl⟩
          | 3, _ => exact stepV rfl rfl (execAsgB rfl (hv 0 (by omega) _ rfl _ rfl)) ⟨s, ⟨_, rfl, rfl⟩, hS, fun _ _ => rfl⟩
          | 4, _ => exact stepV rfl rfl (execAsgB rfl (hv 2 (by omega) _ rfl _ rfl)) ⟨s, ⟨_, rfl, rfl⟩, hS, fun _ _ => rfl⟩
          | k_ + 5, h_ => exact absurd h_ (by simp)
        rintro _ a X25 h1 h2 h3 h4 hS
        clear BB
        replace hS : Below X23.heap.size X23 X25 := hS
        have BB := hS
        clear hS
        replace t1 := (h3 1 (by decide)).trans t1
        replace t12 := (h3 12 (by decide)).trans t12
        replace t112 := (h3 112 (by decide)).trans t112
        replace t113 := (h3 113 (by decide)).trans t113
        replace t114 := (h3 114 (by decide)).trans t114
        have t14 : a.eval (.tmp 14) = .int .i64 ((i : Nat) : Int) := h4 3 _ rfl _ rfl
        have t15 : a.eval (.tmp 15) = .int .i64 ((w : Nat) : Int) := h4 4 _ rfl _ rfl
        replace A := (⟨h1, h2.trans A.2⟩ : a.tmps.size = 152 ∧ a.defers = [])
        clear h1 h2 h3 h4
        refine wp_seq ?_
        refine wp_region_sq (σ := Unit) 152 [(0, 119), (1, 120), (2, 121), (3, 122), (4, 123), (5, 124), (6, 125), (7, 126), (8, 127), (9, 128)] (fun j_ s X => match j_ with | 0 => Below X23.heap.size X23 X | 1 => Below X23.heap.size X23 X | 2 => Below X23.heap.size X23 X | 3 => Below X23.heap.size X23 X | 4 => Below X23.heap.size X23 X | 5 => Below X23.heap.size X23 X | 6 => Below X23.heap.size X23 X | 7 => Below X23.heap.size X23 X | 8 => Below X23.heap.size X23 X | 9 => Below X23.heap.size X23 X | _ => Below X23.heap.size X23 X) (fun s => fun i_ => match i_ with | 0 => .int .i64 ((w : Nat) : Int) | 1 => .bool false | 2 => .bool false | 3 => .int .i64 ((w : Nat) : Int) | 4 => d84 | 5 => .int .i64 ((n : Nat) : Int) | 6 => .int .i64 ((i : Nat) : Int) | 7 => .int .i64 ((n - i : Nat) : Int) | 8 => .bool false | 9 => .bool false | _ => undef) () A.1 (by kernel_rfl) (by decide) (by decide) (BB) ?_ ?_
        · intro i_ hi_ s a X hf hv hn hS
          match i_, hi_ with
          | 0, _ => exact stepV rfl rfl (execMvB rfl ((hf 15 (by decide)).trans t15)) ⟨s, ⟨_, rfl, rfl⟩, hS, fun _ _ => rfl⟩
          | 1, _ => exact stepV rfl rfl (execDec (execLtW (p := w) (q := 0) rfl (hv 0 (by omega) _ rfl _ rfl) rfl) (decide_eq_false (by omega))) ⟨s, ⟨_, rfl, rfl⟩, hS, fun _ _ => rfl⟩
          | 2, _ => exact stepV rfl rfl (execMvB rfl (hv 1 (by omega) _ rfl _ rfl)) ⟨s, ⟨_, rfl, rfl⟩, hS, fun _ _ => rfl⟩
          | 3, _ => exact stepV rfl (wantedOf rfl (yieldedAt rfl rfl (show a.eval (.tmp 121) = .bool false from (hv 2 (by omega) _ rfl _ rfl)))) (execMvB rfl ((hf 15 (by decide)).trans t15)) ⟨s, ⟨_, rfl, rfl⟩, hS, fun _ _ => rfl⟩
          | 4, _ => exact stepV rfl (wantedOf rfl (yieldedAt rfl rfl (show a.eval (.tmp 121) = .bool false from (hv 2 (by omega) _ rfl _ rfl)))) (execMvB rfl ((hf 12 (by decide)).trans t12)) ⟨s, ⟨_, rfl, rfl⟩, hS, fun _ _ => rfl⟩
          | 5, _ => exact stepV rfl (wantedOf rfl (yieldedAt rfl rfl (show a.eval (.tmp 121) = .bool false from (hv 2 (by omega) _ rfl _ rfl)))) (execLenI (len := n) rfl (hv 4 (by omega) _ rfl _ rfl) ((Fd84.on hS)).shp) ⟨s, ⟨_, rfl, rfl⟩, hS, fun _ _ => rfl⟩
          | 6, _ => exact stepV rfl (wantedOf rfl (yieldedAt rfl rfl (show a.eval (.tmp 121) = .bool false from (hv 2 (by omega) _ rfl _ rfl)))) (execMvB rfl ((hf 14 (by decide)).trans t14)) ⟨s, ⟨_, rfl, rfl⟩, hS, fun _ _ => rfl⟩
          | 7, _ => exact stepV rfl (wantedOf rfl (yieldedAt rfl rfl (show a.eval (.tmp 121) = .bool false from (hv 2 (by omega) _ rfl _ rfl)))) (By8.execSubI (p := n) (q := i) rfl (hv 5 (by omega) _ rfl _ rfl) (hv 6 (by omega) _ rfl _ rfl) (by omega) (by omega)) ⟨s, ⟨_, rfl, rfl⟩, hS, fun _ _ => rfl⟩
          | 8, _ => exact stepV rfl (wantedOf rfl (yieldedAt rfl rfl (show a.eval (.tmp 121) = .bool false from (hv 2 (by omega) _ rfl _ rfl)))) (execDec (execGe8 (p := w) (q := n - i) rfl (hv 3 (by omega) _ rfl _ rfl) (hv 7 (by omega) _ rfl _ rfl)) (decide_eq_false (by omega))) ⟨s, ⟨_, rfl, rfl⟩, hS, fun _ _ => rfl⟩
          | 9, _ => exact stepV rfl rfl (execPickF rfl (hv 2 (by omega) _ rfl _ rfl) (hv 8 (by omega) _ rfl _ rfl)) ⟨s, ⟨_, rfl, rfl⟩, hS, fun _ _ => rfl⟩
          | k_ + 10, h_ => exact absurd h_ (by simp)
        rintro _ a X26 h1 h2 h3 h4 hS
        clear BB
        replace hS : Below X23.heap.size X23 X26 := hS
        have BB := hS
        clear hS
        replace t1 := (h3 1 (by decide)).trans t1
        replace t12 := (h3 12 (by decide)).trans t12
        replace t112 := (h3 112 (by decide)).trans t112
        replace t113 := (h3 113 (by decide)).trans t113
        replace t114 := (h3 114 (by decide)).trans t114
        have t128 : a.eval (.tmp 128) = .bool false := h4 9 _ rfl _ rfl
        replace A := (⟨h1, h2.trans A.2⟩ : a.tmps.size = 152 ∧ a.defers = [])
        clear h1 h2 h3 h4
        clear t14 t15
        refine wp_cond_false t128 ?_
        refine wp_skip ?_
        clear t128
        refine wp_region_sq (σ := Unit) 152 [(0, 129), (1, 114)] (fun j_ s X => match j_ with | 0 => Below X23.heap.size X23 X | 1 => Below X23.heap.size X23 X | _ => Below X23.heap.size X23 X) (fun s => fun i_ => match i_ with | 0 => .int .i64 ((i + 1 : Nat) : Int) | 1 => .int .i64 ((i + 1 : Nat) : Int) | _ => undef) () A.1 (by kernel_rfl) (by decide) (by decide) (BB) ?_ ?_
        · intro i_ hi_ s a X hf hv hn hS
          match i_, hi_ with
          | 0, _ => exact stepV rfl rfl (execAd8 (p := i) (q := 1) rfl ((hn 1 (by omega) _ rfl _ rfl).trans t114) rfl (by omega)) ⟨s, ⟨_, rfl, rfl⟩, hS, fun _ _ => rfl⟩
          | 1, _ => exact stepV rfl rfl (execMvB rfl (hv 0 (by omega) _ rfl _ rfl)) ⟨s, ⟨_, rfl, rfl⟩, hS, fun _ _ => rfl⟩
          | k_ + 2, h_ => exact absurd h_ (by simp)
        rintro _ a X28 h1 h2 h3 h4 hS
        clear BB
        replace hS : Below X23.heap.size X23 X28 := hS
        have BB := hS
        clear hS
        replace t1 := (h3 1 (by decide)).trans t1
        replace t12 := (h3 12 (by decide)).trans t12
        replace t112 := (h3 112 (by decide)).trans t112
        replace t113 := (h3 113 (by decide)).trans t113
        replace t114 : a.eval (.tmp 114) = .int .i64 ((i + 1 : Nat) : Int) := h4 1 _ rfl _ rfl
        replace A := (⟨h1, h2.trans A.2⟩ : a.tmps.size = 152 ∧ a.defers = [])
        clear h1 h2 h3 h4
        exact ⟨⟨i + 1, lti, A, t1, t12, t112, t113, t114, BB⟩, by show n - (intOf (a.eval (.tmp 114))).toNat < n - (intOf (Act.eval _ (.tmp 114))).toNat; rw [t114, esi]; show n - (i + 1) < n - i; omega⟩
      · rw [decide_eq_false lti] at t115
        refine wp_cond_false t115 ?_
        refine wp_exit ?_
        first | refine exit_in ?_ | refine exit_then (exit_in ?_) | refine exit_then (exit_then (exit_in ?_))
        clear t115 esi
        clear t112 t113 t114
        replace FI := (FI.on BB)
        replace FF := (FF.on BB)
        replace FC := (FC.on BB)
        replace FO := (FO.on BB)
        replace FQ := (on9 FQ BB)
        replace Fa23 := (Fa23.on BB)
        replace Fo23 := (Fo23.on BB)
        replace Fd84 := (Fd84.on BB)
        replace BW := BW.trans (BB.mono BW.size)
        clear BB
        refine wp_seq ?_
        refine wp_region_sq (σ := Value × Value) 152 [(0, 131), (1, 132), (2, 133), (3, 134), (4, 130), (5, 135), (6, 136), (7, 137), (8, 3), (9, 4), (10, 5)] (fun j_ s X => match j_ with | 0 => Below X24.heap.size X24 X | 1 => Below X24.heap.size X24 X | 2 => Below X24.heap.size X24 X | 3 => Below X24.heap.size X24 X | 4 => Below X24.heap.size X24 X ∧ (SliceI X s.1 (zl (paE sf J (dwF sf cf vf) n) n) (pcF sf J (dwF sf cf vf))) ∧ (SliceI X s.2 (zl (paE sf J (dwF sf cf vf) n) n) (poF sf J (dwF sf cf vf) n)) | 5 => Below X24.heap.size X24 X ∧ (SliceI X s.1 (zl (paE sf J (dwF sf cf vf) n) n) (pcF sf J (dwF sf cf vf))) ∧ (SliceI X s.2 (zl (paE sf J (dwF sf cf vf) n) n) (poF sf J (dwF sf cf vf) n)) | 6 => Below X24.heap.size X24 X ∧ (SliceI X s.1 (zl (paE sf J (dwF sf cf vf) n) n) (pcF sf J (dwF sf cf vf))) ∧ (SliceI X s.2 (zl (paE sf J (dwF sf cf vf) n) n) (poF sf J (dwF sf cf vf) n)) | 7 => Below X24.heap.size X24 X ∧ (SliceI X s.1 (zl (paE sf J (dwF sf cf vf) n) n) (pcF sf J (dwF sf cf vf))) ∧ (SliceI X s.2 (zl (paE sf J (dwF sf cf vf) n) n) (poF sf J (dwF sf cf vf) n)) | 8 => Below X24.heap.size X24 X ∧ (SliceI X s.1 (zl (paE sf J (dwF sf cf vf) n) n) (pcF sf J (dwF sf cf vf))) ∧ (SliceI X s.2 (zl (paE sf J (dwF sf cf vf) n) n) (poF sf J (dwF sf cf vf) n)) | 9 => Below X24.heap.size X24 X ∧ (SliceI X s.1 (zl (paE sf J (dwF sf cf vf) n) n) (pcF sf J (dwF sf cf vf))) ∧ (SliceI X s.2 (zl (paE sf J (dwF sf cf vf) n) n) (poF sf J (dwF sf cf vf) n)) | 10 => Below X24.heap.size X24 X ∧ (SliceI X s.1 (zl (paE sf J (dwF sf cf vf) n) n) (pcF sf J (dwF sf cf vf))) ∧ (SliceI X s.2 (zl (paE sf J (dwF sf cf vf) n) n) (poF sf J (dwF sf cf vf) n)) | _ => Below X24.heap.size X24 X ∧ (SliceI X s.1 (zl (paE sf J (dwF sf cf vf) n) n) (pcF sf J (dwF sf cf vf))) ∧ (SliceI X s.2 (zl (paE sf J (dwF sf cf vf) n) n) (poF sf J (dwF sf cf vf) n))) (fun s => fun i_ => match i_ with | 0 => .pointer (some ⟨gq, 0, none⟩) | 1 => v0 | 2 => d84 | 3 => .tuple #[s.1, s.2, .int .i64 ((paE sf J (dwF sf cf vf) n : Nat) : Int)] | 4 => .tuple #[s.1, s.2, .int .i64 ((paE sf J (dwF sf cf vf) n : Nat) : Int)] | 5 => s.1 | 6 => s.2 | 7 => .int .i64 ((paE sf J (dwF sf cf vf) n : Nat) : Int) | 8 => s.1 | 9 => s.2 | 10 => .int .i64 ((paE sf J (dwF sf cf vf) n : Nat) : Int) | _ => undef) (undef, undef) A.1 (by kernel_rfl) (by decide) (by decide) (Below.refl _ _) ?_ ?_
        · intro i_ hi_ s a X hf hv hn hS
          match i_, hi_ with
          | 0, _ => exact stepV rfl rfl (execFldAk0 rfl ((hf 1 (by decide)).trans t1)) ⟨s, ⟨_, rfl, rfl⟩, hS, fun _ _ => rfl⟩
          | 1, _ => exact stepV rfl rfl (execLdLI (v := v0) rfl (hv 0 (by omega) _ rfl _ rfl) (ak_at0 (on9 FQ hS))) ⟨s, ⟨_, rfl, rfl⟩, hS, fun _ _ => rfl⟩
          | 2, _ => exact stepV rfl rfl (execMvB rfl ((hf 12 (by decide)).trans t12)) ⟨s, ⟨_, rfl, rfl⟩, hS, fun _ _ => rfl⟩
          | 3, _ =>
            refine stepC rfl rfl (execCall2 Try.func19 (by kernel_rfl) (by kernel_rfl) rfl (hv 1 (by omega) _ rfl _ rfl) (hv 2 (by omega) _ rfl _ rfl)) (ppattern sf (dwF sf cf vf) J n _ _ X (FI.on hS) (by omega) (Fd84.on hS) (by omega)) fun e w' hh => ?_
            obtain ⟨r0_, r1_, he, hk, hb⟩ := hh
            refine ⟨_, he, (r0_, r1_), ⟨_, rfl, rfl⟩, ⟨(hS).trans ((hb).mono (hS).size), own_ints (hk.rows 0 (by omega)) (pc_fits (by omega)), own_ints (hk.rows 1 (by omega)) (po_fits ((Fd84.on hS)).fits)⟩, fun i hi => ?_⟩
            match i, hi with
            | 0, _ => rfl
            | 1, _ => rfl
            | 2, _ => rfl
            | n_ + 3, h_ => omega
          | 4, _ => exact stepV rfl rfl (execMvB rfl (hv 3 (by omega) _ rfl _ rfl)) ⟨s, ⟨_, rfl, rfl⟩, hS, fun _ _ => rfl⟩
          | 5, _ => exact stepV rfl rfl (execExtT rfl (hv 4 (by omega) _ rfl _ rfl) rfl) ⟨s, ⟨_, rfl, rfl⟩, hS, fun _ _ => rfl⟩
          | 6, _ => exact stepV rfl rfl (execExtT rfl (hv 4 (by omega) _ rfl _ rfl) rfl) ⟨s, ⟨_, rfl, rfl⟩, hS, fun _ _ => rfl⟩
          | 7, _ => exact stepV rfl rfl (execExtT rfl (hv 4 (by omega) _ rfl _ rfl) rfl) ⟨s, ⟨_, rfl, rfl⟩, hS, fun _ _ => rfl⟩
          | 8, _ => exact stepV rfl rfl (execAsgB rfl (hv 5 (by omega) _ rfl _ rfl)) ⟨s, ⟨_, rfl, rfl⟩, hS, fun _ _ => rfl⟩
          | 9, _ => exact stepV rfl rfl (execAsgB rfl (hv 6 (by omega) _ rfl _ rfl)) ⟨s, ⟨_, rfl, rfl⟩, hS, fun _ _ => rfl⟩
          | 10, _ => exact stepV rfl rfl (execAsgB rfl (hv 7 (by omega) _ rfl _ rfl)) ⟨s, ⟨_, rfl, rfl⟩, hS, fun _ _ => rfl⟩
          | k_ + 11, h_ => exact absurd h_ (by simp)
        rintro ⟨a134, o134⟩ a X29 h1 h2 h3 h4 hS
        replace hS : Below X24.heap.size X24 X29 ∧ (SliceI X29 a134 (zl (paE sf J (dwF sf cf vf) n) n) (pcF sf J (dwF sf cf vf))) ∧ (SliceI X29 o134 (zl (paE sf J (dwF sf cf vf) n) n) (poF sf J (dwF sf cf vf) n)) := hS
        obtain ⟨bX, Fa134, Fo134⟩ := hS
        replace t1 := (h3 1 (by decide)).trans t1
        have t3 : a.eval (.tmp 3) = a134 := h4 8 _ rfl _ rfl
        have t4 : a.eval (.tmp 4) = o134 := h4 9 _ rfl _ rfl
        have t5 : a.eval (.tmp 5) = .int .i64 ((paE sf J (dwF sf cf vf) n : Nat) : Int) := h4 10 _ rfl _ rfl
        replace FI := (FI.on bX)
        replace FF := (FF.on bX)
        replace FC := (FC.on bX)
        replace FO := (FO.on bX)
        replace FQ := (on9 FQ bX)
        replace Fa23 := (Fa23.on bX)
        replace Fo23 := (Fo23.on bX)
        replace Fd84 := (Fd84.on bX)
        have ZX29 := bX.size
        replace BW := BW.trans (bX.mono BW.size)
        clear bX
        replace A := (⟨h1, h2.trans A.2⟩ : a.tmps.size = 152 ∧ a.defers = [])
        clear h1 h2 h3 h4
        clear t12
        rw [paE_ok hpq] at t5
        replace Fa134 : (SliceI X29 a134 (n) (pcF sf J (dwF sf cf vf))) := (by have h_ := Fa134; rw [paE_ok hpq, zl_ok] at h_; exact h_)
        replace Fo134 : (SliceI X29 o134 (n) (poF sf J (dwF sf cf vf) n)) := (by have h_ := Fo134; rw [paE_ok hpq, zl_ok] at h_; exact h_)
        refine wp_seq ?_
        refine wp_region_sq (σ := Unit) 152 [(0, 138), (1, 139), (2, 140), (3, 141), (4, 142), (5, 143), (6, 144), (7, 145), (8, 146), (9, 147), (10, 148), (11, 149), (12, 150), (13, 151), (14, 2)] (fun j_ s X => match j_ with | 0 => Below X29.heap.size X29 X | 1 => Below X29.heap.size X29 X | 2 => Below X29.heap.size X29 X | 3 => Below X29.heap.size X29 X | 4 => Below X29.heap.size X29 X | 5 => Below X29.heap.size X29 X | 6 => Below X29.heap.size X29 X | 7 => Below X29.heap.size X29 X | 8 => Below X29.heap.size X29 X | 9 => Below X29.heap.size X29 X | 10 => Below X29.heap.size X29 X | 11 => Below X29.heap.size X29 X | 12 => Below X29.heap.size X29 X | 13 => Below X29.heap.size X29 X | 14 => Below X29.heap.size X29 X | _ => Below X29.heap.size X29 X) (fun s => fun i_ => match i_ with | 0 => .int .i64 ((0 : Nat) : Int) | 1 => .bool true | 2 => .bool true | 3 => a134 | 4 => .pointer (some ⟨gq, 2, none⟩) | 5 => v2 | 6 => .bool true | 7 => .bool true | 8 => .bool true | 9 => o134 | 10 => .pointer (some ⟨gq, 3, none⟩) | 11 => v3 | 12 => .bool true | 13 => .bool true | 14 => .bool true | _ => undef) () A.1 (by kernel_rfl) (by decide) (by decide) (Below.refl _ _) ?_ ?_
        · intro i_ hi_ s a X hf hv hn hS
          match i_, hi_ with
          | 0, _ => exact stepV rfl rfl (execMvB rfl ((hf 5 (by decide)).trans t5)) ⟨s, ⟨_, rfl, rfl⟩, hS, fun _ _ => rfl⟩
          | 1, _ => exact stepV rfl rfl (execDec (execEqE (p := 0) (q := 0) rfl (hv 0 (by omega) _ rfl _ rfl) rfl) (decide_eq_true (by decide))) ⟨s, ⟨_, rfl, rfl⟩, hS, fun _ _ => rfl⟩
          | 2, _ => exact stepV rfl rfl (execMvB rfl (hv 1 (by omega) _ rfl _ rfl)) ⟨s, ⟨_, rfl, rfl⟩, hS, fun _ _ => rfl⟩
          | 3, _ => exact stepV rfl (wantedOf rfl (yieldedAt rfl rfl (show a.eval (.tmp 140) = .bool true from (hv 2 (by omega) _ rfl _ rfl)))) (execMvB rfl ((hf 3 (by decide)).trans t3)) ⟨s, ⟨_, rfl, rfl⟩, hS, fun _ _ => rfl⟩
          | 4, _ => exact stepV rfl (wantedOf rfl (yieldedAt rfl rfl (show a.eval (.tmp 140) = .bool true from (hv 2 (by omega) _ rfl _ rfl)))) (execFldAk2 rfl ((hf 1 (by decide)).trans t1)) ⟨s, ⟨_, rfl, rfl⟩, hS, fun _ _ => rfl⟩
          | 5, _ => exact stepV rfl (wantedOf rfl (yieldedAt rfl rfl (show a.eval (.tmp 140) = .bool true from (hv 2 (by omega) _ rfl _ rfl)))) (execLdLI (v := v2) rfl (hv 4 (by omega) _ rfl _ rfl) (ak_at2 (on9 FQ hS))) ⟨s, ⟨_, rfl, rfl⟩, hS, fun _ _ => rfl⟩
          | 6, _ => exact stepC rfl (wantedOf rfl (yieldedAt rfl rfl (show a.eval (.tmp 140) = .bool true from (hv 2 (by omega) _ rfl _ rfl)))) (execCall2 Try.func14 (by kernel_rfl) (by kernel_rfl) rfl (hv 3 (by omega) _ rfl _ rfl) (hv 5 (by omega) _ rfl _ rfl)) (same_t _ _ (n) _ _ X (Fa134.on hS) (FC.on hS) (hb1) (by omega)) fun e w' hh => ⟨_, hh.1, s, ⟨_, rfl, rfl⟩, (hS).trans ((hh.2).mono (hS).size), fun _ _ => rfl⟩
          | 7, _ => exact stepV rfl rfl (execPickT rfl (hv 2 (by omega) _ rfl _ rfl) (hv 6 (by omega) _ rfl _ rfl)) ⟨s, ⟨_, rfl, rfl⟩, hS, fun _ _ => rfl⟩
          | 8, _ => exact stepV rfl rfl (execMvB rfl (hv 7 (by omega) _ rfl _ rfl)) ⟨s, ⟨_, rfl, rfl⟩, hS, fun _ _ => rfl⟩
          | 9, _ => exact stepV rfl (wantedOf rfl (yieldedAt rfl rfl (show a.eval (.tmp 146) = .bool true from (hv 8 (by omega) _ rfl _ rfl)))) (execMvB rfl ((hf 4 (by decide)).trans t4)) ⟨s, ⟨_, rfl, rfl⟩, hS, fun _ _ => rfl⟩
          | 10, _ => exact stepV rfl (wantedOf rfl (yieldedAt rfl rfl (show a.eval (.tmp 146) = .bool true from (hv 8 (by omega) _ rfl _ rfl)))) (execFldAk3 rfl ((hf 1 (by decide)).trans t1)) ⟨s, ⟨_, rfl, rfl⟩, hS, fun _ _ => rfl⟩
          | 11, _ => exact stepV rfl (wantedOf rfl (yieldedAt rfl rfl (show a.eval (.tmp 146) = .bool true from (hv 8 (by omega) _ rfl _ rfl)))) (execLdLI (v := v3) rfl (hv 10 (by omega) _ rfl _ rfl) (ak_at3 (on9 FQ hS))) ⟨s, ⟨_, rfl, rfl⟩, hS, fun _ _ => rfl⟩
          | 12, _ => exact stepC rfl (wantedOf rfl (yieldedAt rfl rfl (show a.eval (.tmp 146) = .bool true from (hv 8 (by omega) _ rfl _ rfl)))) (execCall2 Try.func14 (by kernel_rfl) (by kernel_rfl) rfl (hv 9 (by omega) _ rfl _ rfl) (hv 11 (by omega) _ rfl _ rfl)) (same_t _ _ (n) _ _ X (Fo134.on hS) (FO.on hS) (hb2) (by omega)) fun e w' hh => ⟨_, hh.1, s, ⟨_, rfl, rfl⟩, (hS).trans ((hh.2).mono (hS).size), fun _ _ => rfl⟩
          | 13, _ => exact stepV rfl rfl (execPickT rfl (hv 8 (by omega) _ rfl _ rfl) (hv 12 (by omega) _ rfl _ rfl)) ⟨s, ⟨_, rfl, rfl⟩, hS, fun _ _ => rfl⟩
          | 14, _ => exact stepV rfl rfl (execAsgB rfl (hv 13 (by omega) _ rfl _ rfl)) ⟨s, ⟨_, rfl, rfl⟩, hS, fun _ _ => rfl⟩
          | k_ + 15, h_ => exact absurd h_ (by simp)
        rintro _ a X30 h1 h2 h3 h4 hS
        replace hS : Below X29.heap.size X29 X30 := hS
        have bX := hS
        clear hS
        have t2 : a.eval (.tmp 2) = .bool true := h4 14 _ rfl _ rfl
        replace FI := (FI.on bX)
        replace FF := (FF.on bX)
        replace FC := (FC.on bX)
        replace FO := (FO.on bX)
        replace FQ := (on9 FQ bX)
        replace Fa23 := (Fa23.on bX)
        replace Fo23 := (Fo23.on bX)
        replace Fd84 := (Fd84.on bX)
        replace Fa134 := (Fa134.on bX)
        replace Fo134 := (Fo134.on bX)
        have ZX30 := bX.size
        replace BW := BW.trans (bX.mono BW.size)
        clear bX
        replace A := (⟨h1, h2.trans A.2⟩ : a.tmps.size = 152 ∧ a.defers = [])
        clear h1 h2 h3 h4
        clear t1 t3 t4 t5
        refine wp_ret ?_
        repeat (first | refine ret_in ?_ | refine ret_then ?_)
        refine bodyPost_ret (results_tmp rfl _ _ _) A.2 ⟨?_, BW⟩
        show Ending.returned (a.eval (.tmp 2)) = _
        rw [t2]
    · rw [drE_no h2] at t13
      replace Fd84 : (SliceI X20 d84 (0) (dwF sf cf vf)) := (by have h_ := Fd84; rw [drE_no h2, zl_no (by decide)] at h_; exact h_)
      refine wp_seq ?_
      refine wp_seq ?_
      refine wp_region_sq (σ := Unit) 152 [(0, 87), (1, 88)] (fun j_ s X => match j_ with | 0 => Below X20.heap.size X20 X | 1 => Below X20.heap.size X20 X | _ => Below X20.heap.size X20 X) (fun s => fun i_ => match i_ with | 0 => .int .i64 ((2 : Nat) : Int) | 1 => .bool true | _ => undef) () A.1 (by kernel_rfl) (by decide) (by decide) (Below.refl _ _) ?_ ?_
      · intro i_ hi_ s a X hf hv hn hS
        match i_, hi_ with
        | 0, _ => exact stepV rfl rfl (execMvB rfl ((hf 13 (by decide)).trans t13)) ⟨s, ⟨_, rfl, rfl⟩, hS, fun _ _ => rfl⟩
        | 1, _ => exact stepV rfl rfl (execDec (execNeE (p := 2) (q := 0) rfl (hv 0 (by omega) _ rfl _ rfl) rfl) (decide_eq_true (by decide))) ⟨s, ⟨_, rfl, rfl⟩, hS, fun _ _ => rfl⟩
        | k_ + 2, h_ => exact absurd h_ (by simp)
      rintro _ a X21 h1 h2 h3 h4 hS
      replace hS : Below X20.heap.size X20 X21 := hS
      have bX := hS
      clear hS
      replace t3 := (h3 3 (by decide)).trans t3
      replace t4 := (h3 4 (by decide)).trans t4
      replace t5 := (h3 5 (by decide)).trans t5
      replace t12 := (h3 12 (by decide)).trans t12
      replace t13 := (h3 13 (by decide)).trans t13
      have t88 : a.eval (.tmp 88) = .bool true := h4 1 _ rfl _ rfl
      replace FI := (FI.on bX)
      replace FF := (FF.on bX)
      replace FC := (FC.on bX)
      replace FO := (FO.on bX)
      replace FQ := (on9 FQ bX)
      replace Fa23 := (Fa23.on bX)
      replace Fo23 := (Fo23.on bX)
      replace Fd84 := (Fd84.on bX)
      have ZX21 := bX.size
      replace BW := BW.trans (bX.mono BW.size)
      clear bX
      replace A := (⟨h1, h2.trans A.2⟩ : a.tmps.size = 152 ∧ a.defers = [])
      clear h1 h2 h3 h4
      clear t1
      refine wp_cond_true t88 ?_
      clear t88
      refine wp_seq ?_
      refine wp_region_sq (σ := Unit) 152 [(0, 89), (1, 90), (2, 91), (3, 92), (4, 93), (5, 94), (6, 95), (7, 96), (8, 97), (9, 98), (10, 99), (11, 100), (12, 101), (13, 102), (14, 103), (15, 104), (16, 105), (17, 106), (18, 107), (19, 108), (20, 109), (21, 110), (22, 111), (23, 2)] (fun j_ s X => match j_ with | 0 => Below X21.heap.size X21 X | 1 => Below X21.heap.size X21 X | 2 => Below X21.heap.size X21 X | 3 => Below X21.heap.size X21 X | 4 => Below X21.heap.size X21 X | 5 => Below X21.heap.size X21 X | 6 => Below X21.heap.size X21 X | 7 => Below X21.heap.size X21 X | 8 => Below X21.heap.size X21 X | 9 => Below X21.heap.size X21 X | 10 => Below X21.heap.size X21 X | 11 => Below X21.heap.size X21 X | 12 => Below X21.heap.size X21 X | 13 => Below X21.heap.size X21 X | 14 => Below X21.heap.size X21 X | 15 => Below X21.heap.size X21 X | 16 => Below X21.heap.size X21 X | 17 => Below X21.heap.size X21 X | 18 => Below X21.heap.size X21 X | 19 => Below X21.heap.size X21 X | 20 => Below X21.heap.size X21 X | 21 => Below X21.heap.size X21 X | 22 => Below X21.heap.size X21 X | 23 => Below X21.heap.size X21 X | _ => Below X21.heap.size X21 X) (fun s => fun i_ => match i_ with | 0 => .int .i64 ((2 : Nat) : Int) | 1 => .bool true | 2 => .bool true | 3 => d84 | 4 => .int .i64 ((0 : Nat) : Int) | 5 => .bool true | 6 => .bool true | 7 => .bool true | 8 => .int .i64 ((2 : Nat) : Int) | 9 => .bool false | 10 => .bool false | 11 => .int .i64 ((2 : Nat) : Int) | 12 => .bool true | 13 => .bool true | 14 => a23 | 15 => .int .i64 ((0 : Nat) : Int) | 16 => o23 | 17 => .int .i64 ((0 : Nat) : Int) | 18 => .int .i64 ((0 + 0 : Nat) : Int) | 19 => .bool true | 20 => .bool true | 21 => .bool true | 22 => .bool true | 23 => .bool true | _ => undef) () A.1 (by kernel_rfl) (by decide) (by decide) (Below.refl _ _) ?_ ?_
      · intro i_ hi_ s a X hf hv hn hS
        match i_, hi_ with
        | 0, _ => exact stepV rfl rfl (execMvB rfl ((hf 13 (by decide)).trans t13)) ⟨s, ⟨_, rfl, rfl⟩, hS, fun _ _ => rfl⟩
        | 1, _ => exact stepV rfl rfl (execDec (execEqE (p := 2) (q := 2) rfl (hv 0 (by omega) _ rfl _ rfl) rfl) (decide_eq_true (by decide))) ⟨s, ⟨_, rfl, rfl⟩, hS, fun _ _ => rfl⟩
        | 2, _ => exact stepV rfl rfl (execMvB rfl (hv 1 (by omega) _ rfl _ rfl)) ⟨s, ⟨_, rfl, rfl⟩, hS, fun _ _ => rfl⟩
        | 3, _ => exact stepV rfl (wantedOf rfl (yieldedAt rfl rfl (show a.eval (.tmp 91) = .bool true from (hv 2 (by omega) _ rfl _ rfl)))) (execMvB rfl ((hf 12 (by decide)).trans t12)) ⟨s, ⟨_, rfl, rfl⟩, hS, fun _ _ => rfl⟩
        | 4, _ => exact stepV rfl (wantedOf rfl (yieldedAt rfl rfl (show a.eval (.tmp 91) = .bool true from (hv 2 (by omega) _ rfl _ rfl)))) (execLenI (len := 0) rfl (hv 3 (by omega) _ rfl _ rfl) ((Fd84.on hS)).shp) ⟨s, ⟨_, rfl, rfl⟩, hS, fun _ _ => rfl⟩
        | 5, _ => exact stepV rfl (wantedOf rfl (yieldedAt rfl rfl (show a.eval (.tmp 91) = .bool true from (hv 2 (by omega) _ rfl _ rfl)))) (execDec (execEqN (p := 0) (q := 0) rfl (hv 4 (by omega) _ rfl _ rfl) rfl) (decide_eq_true (by decide))) ⟨s, ⟨_, rfl, rfl⟩, hS, fun _ _ => rfl⟩
        | 6, _ => exact stepV rfl rfl (execPickT rfl (hv 2 (by omega) _ rfl _ rfl) (hv 5 (by omega) _ rfl _ rfl)) ⟨s, ⟨_, rfl, rfl⟩, hS, fun _ _ => rfl⟩
        | 7, _ => exact stepV rfl rfl (execMvB rfl (hv 6 (by omega) _ rfl _ rfl)) ⟨s, ⟨_, rfl, rfl⟩, hS, fun _ _ => rfl⟩
        | 8, _ => exact stepV rfl (wantedOf rfl (yieldedAt rfl rfl (show a.eval (.tmp 96) = .bool true from (hv 7 (by omega) _ rfl _ rfl)))) (execMvB rfl ((hf 5 (by decide)).trans t5)) ⟨s, ⟨_, rfl, rfl⟩, hS, fun _ _ => rfl⟩
        | 9, _ => exact stepV rfl (wantedOf rfl (yieldedAt rfl rfl (show a.eval (.tmp 96) = .bool true from (hv 7 (by omega) _ rfl _ rfl)))) (execDec (execEqE (p := 2) (q := 0) rfl (hv 8 (by omega) _ rfl _ rfl) rfl) (decide_eq_false (by decide))) ⟨s, ⟨_, rfl, rfl⟩, hS, fun _ _ => rfl⟩
        | 10, _ => exact stepV rfl (wantedOf rfl (yieldedAt rfl rfl (show a.eval (.tmp 96) = .bool true from (hv 7 (by omega) _ rfl _ rfl)))) (execMvB rfl (hv 9 (by omega) _ rfl _ rfl)) ⟨s, ⟨_, rfl, rfl⟩, hS, fun _ _ => rfl⟩
        | 11, _ => exact stepV rfl (wantedOf rfl (yieldedAt rfl rfl (show a.eval (.tmp 99) = .bool false from (hv 10 (by omega) _ rfl _ rfl)))) (execMvB rfl ((hf 5 (by decide)).trans t5)) ⟨s, ⟨_, rfl, rfl⟩, hS, fun _ _ => rfl⟩
        | 12, _ => exact stepV rfl (wantedOf rfl (yieldedAt rfl rfl (show a.eval (.tmp 99) = .bool false from (hv 10 (by omega) _ rfl _ rfl)))) (execDec (execEqE (p := 2) (q := 2) rfl (hv 11 (by omega) _ rfl _ rfl) rfl) (decide_eq_true (by decide))) ⟨s, ⟨_, rfl, rfl⟩, hS, fun _ _ => rfl⟩
        | 13, _ => exact stepV rfl (wantedOf rfl (yieldedAt rfl rfl (show a.eval (.tmp 99) = .bool false from (hv 10 (by omega) _ rfl _ rfl)))) (execMvB rfl (hv 12 (by omega) _ rfl _ rfl)) ⟨s, ⟨_, rfl, rfl⟩, hS, fun _ _ => rfl⟩
        | 14, _ => exact stepV rfl (wantedOf rfl (yieldedAt rfl rfl (show a.eval (.tmp 102) = .bool true from (hv 13 (by omega) _ rfl _ rfl)))) (execMvB rfl ((hf 3 (by decide)).trans t3)) ⟨s, ⟨_, rfl, rfl⟩, hS, fun _ _ => rfl⟩
        | 15, _ => exact stepV rfl (wantedOf rfl (yieldedAt rfl rfl (show a.eval (.tmp 102) = .bool true from (hv 13 (by omega) _ rfl _ rfl)))) (execLenI (len := 0) rfl (hv 14 (by omega) _ rfl _ rfl) ((Fa23.on hS)).shp) ⟨s, ⟨_, rfl, rfl⟩, hS, fun _ _ => rfl⟩
        | 16, _ => exact stepV rfl (wantedOf rfl (yieldedAt rfl rfl (show a.eval (.tmp 102) = .bool true from (hv 13 (by omega) _ rfl _ rfl)))) (execMvB rfl ((hf 4 (by decide)).trans t4)) ⟨s, ⟨_, rfl, rfl⟩, hS, fun _ _ => rfl⟩
        | 17, _ => exact stepV rfl (wantedOf rfl (yieldedAt rfl rfl (show a.eval (.tmp 102) = .bool true from (hv 13 (by omega) _ rfl _ rfl)))) (execLenI (len := 0) rfl (hv 16 (by omega) _ rfl _ rfl) ((Fo23.on hS)).shp) ⟨s, ⟨_, rfl, rfl⟩, hS, fun _ _ => rfl⟩
        | 18, _ => exact stepV rfl (wantedOf rfl (yieldedAt rfl rfl (show a.eval (.tmp 102) = .bool true from (hv 13 (by omega) _ rfl _ rfl)))) (execAd8 (p := 0) (q := 0) rfl (hv 15 (by omega) _ rfl _ rfl) (hv 17 (by omega) _ rfl _ rfl) (by omega)) ⟨s, ⟨_, rfl, rfl⟩, hS, fun _ _ => rfl⟩
        | 19, _ => exact stepV rfl (wantedOf rfl (yieldedAt rfl rfl (show a.eval (.tmp 102) = .bool true from (hv 13 (by omega) _ rfl _ rfl)))) (execDec (execEqN (p := 0 + 0) (q := 0) rfl (hv 18 (by omega) _ rfl _ rfl) rfl) (decide_eq_true (by decide))) ⟨s, ⟨_, rfl, rfl⟩, hS, fun _ _ => rfl⟩
        | 20, _ => exact stepV rfl (wantedOf rfl (yieldedAt rfl rfl (show a.eval (.tmp 99) = .bool false from (hv 10 (by omega) _ rfl _ rfl)))) (execPickT rfl (hv 13 (by omega) _ rfl _ rfl) (hv 19 (by omega) _ rfl _ rfl)) ⟨s, ⟨_, rfl, rfl⟩, hS, fun _ _ => rfl⟩
        | 21, _ => exact stepV rfl (wantedOf rfl (yieldedAt rfl rfl (show a.eval (.tmp 96) = .bool true from (hv 7 (by omega) _ rfl _ rfl)))) (execPickF rfl (hv 10 (by omega) _ rfl _ rfl) (hv 20 (by omega) _ rfl _ rfl)) ⟨s, ⟨_, rfl, rfl⟩, hS, fun _ _ => rfl⟩
        | 22, _ => exact stepV rfl rfl (execPickT rfl (hv 7 (by omega) _ rfl _ rfl) (hv 21 (by omega) _ rfl _ rfl)) ⟨s, ⟨_, rfl, rfl⟩, hS, fun _ _ => rfl⟩
        | 23, _ => exact stepV rfl rfl (execAsgB rfl (hv 22 (by omega) _ rfl _ rfl)) ⟨s, ⟨_, rfl, rfl⟩, hS, fun _ _ => rfl⟩
        | k_ + 24, h_ => exact absurd h_ (by simp)
      rintro _ a X22 h1 h2 h3 h4 hS
      replace hS : Below X21.heap.size X21 X22 := hS
      have bX := hS
      clear hS
      have t2 : a.eval (.tmp 2) = .bool true := h4 23 _ rfl _ rfl
      replace FI := (FI.on bX)
      replace FF := (FF.on bX)
      replace FC := (FC.on bX)
      replace FO := (FO.on bX)
      replace FQ := (on9 FQ bX)
      replace Fa23 := (Fa23.on bX)
      replace Fo23 := (Fo23.on bX)
      replace Fd84 := (Fd84.on bX)
      have ZX22 := bX.size
      replace BW := BW.trans (bX.mono BW.size)
      clear bX
      replace A := (⟨h1, h2.trans A.2⟩ : a.tmps.size = 152 ∧ a.defers = [])
      clear h1 h2 h3 h4
      clear t3 t4 t5 t12 t13
      refine wp_ret ?_
      repeat (first | refine ret_in ?_ | refine ret_then ?_)
      refine bodyPost_ret (results_tmp rfl _ _ _) A.2 ⟨?_, BW⟩
      show Ending.returned (a.eval (.tmp 2)) = _
      rw [t2]
end Go.Proofs.Ytdecmmcphcomhaa.Brd
