import Derived.Test.YtigkmgoidbamnaaV9u
namespace Go.Proofs.Ytigkmgoidbamnaa.Tap
open Go.RowKit Gf8 Aes By8 Cel Cf
/- TapeParts. Written by tools/mkV9v.py. -/

section
variable {o : Oper} {a : Act} {w : World}
theorem execLdPt {x : Operand} {g : Nat} {n b c : Value} {t : TypeId} {fr : Nat × Nat} (ho : o.op = .load 49 x) (hx : a.eval x = .pointer (some ⟨g, 0, none⟩)) (hg : w.heap[g]? = some (.cells (ptC n b c) t fr)) :
    (execOp a.eval o).run Try.prog w = .ok (.value (.agg (ptC n b c))) w := by
  have h := execLoadMid (P := Try.prog) (w := w) (cs := (ptC n b c).toList) ho hx (fun j v hj => by rw [cell_of_row _ _ _ _ _ _ hg, Nat.zero_add, ← Array.getElem?_toList]; exact hj) Try.underlying49 rfl (size_pt _ _ _)
  exact h
theorem execLtIt {x : Operand} {p q : Int} (ho : o.op = .binOp .lss 3 x (.const (.int .i64 q)) 3) (hx : a.eval x = .int .i64 p) (h : p < q) : (execOp a.eval o).run Try.prog w = .ok (.value (.bool true)) w := by
  unfold execOp
  simp only [ho, hx]
  simp [go_sem, h]
theorem execLtIf {x : Operand} {p q : Int} (ho : o.op = .binOp .lss 3 x (.const (.int .i64 q)) 3) (hx : a.eval x = .int .i64 p) (h : ¬ p < q) : (execOp a.eval o).run Try.prog w = .ok (.value (.bool false)) w := by
  unfold execOp
  simp only [ho, hx]
  simp [go_sem]
  omega
theorem execGtIt {x : Operand} {p q : Int} (ho : o.op = .binOp .gtr 3 x (.const (.int .i64 q)) 3) (hx : a.eval x = .int .i64 p) (h : q < p) : (execOp a.eval o).run Try.prog w = .ok (.value (.bool true)) w := by
  unfold execOp
  simp only [ho, hx]
  simp [go_sem, h]
theorem execGtIf {x : Operand} {p q : Int} (ho : o.op = .binOp .gtr 3 x (.const (.int .i64 q)) 3) (hx : a.eval x = .int .i64 p) (h : ¬ q < p) : (execOp a.eval o).run Try.prog w = .ok (.value (.bool false)) w := by
  unfold execOp
  simp only [ho, hx]
  simp [go_sem]
  omega
theorem execLenLs {x : Operand} {v : Value} {len : Nat} (ho : o.op = .call { callee := .builtin .len, args := #[x], argTypes := #[47] }) (hx : a.eval x = v) (hv : ∃ ao c, v = .slice ao len c) : (execOp a.eval o).run Try.prog w = .ok (.value (.int .i64 (len : Int))) w := by
  obtain ⟨ao, c, rfl⟩ := hv
  exact execLenL ho hx
end
theorem own_nil9 {W : World} {B n : Nat} {v : Value} {xs : List Value} (h : W.ownsRow B 5 1 v n xs) : ∀ l c, v = .slice none l c → c = 0 := by
  intro l c e
  rcases h.2 with ⟨rfl, _⟩ | ⟨g, cap, cur, rfl, _⟩
  · injection e with _ _ e
    exact e.symm
  · cases e
theorem split_bad (f : Nat → Nat) (len : Nat) (ch : Int) (v : Value) (V : World) (hv : SliceN V v len f) (hl : len ≤ 140737488351232) (E : Nat) (hE : spE len ch = E ∧ E ≠ 0) :
    Calls Try.prog 18 #[v, .int .i64 ch] V fun e w' => ∃ nv bv cv x, e = .returned (.tuple #[.agg (ptC nv bv cv), .int .i64 (E : Nat)]) ∧ PtS w' V.heap.size 0 nv bv cv x 0 0 0 f ∧ Below V.heap.size V w' := by
  have h := split_any f len ch v V hv hl
  unfold spC spA spB spQ at h
  rw [hE.1] at h
  simp only [if_neg hE.2] at h
  exact h
set_option maxRecDepth 100000 in
set_option maxHeartbeats 4000000 in
theorem parts_lo (f : Nat → Nat) (len : Nat) (ch : Int) (v : Value) (V : World) (hv : SliceN V v len f) (hl : len ≤ 140737488351232) (h1 : ch < 1) :
    Calls Try.prog 5 #[v, .int .i64 ch] V fun e w' => e = .returned (.bool true) ∧ Below V.heap.size V w' := by
  obtain ⟨ao, cap, rfl, hcl, _⟩ := id hv.shape
  have FP := hv
  have hp := hv.bytes
  clear hv
  go_enter Try.func5, Try.ntmps5
  refine wp_seq ?_
  refine wp_region_sqK 126 [(0, 4)] (fun i_ => match i_ with | 0 => .bool false | _ => undef) rfl (by kernel_rfl) (by decide) (by decide) ?_ ?_
  · intro i_ hi_ a hf hv hn
    match i_, hi_ with
    | 0, _ => exact stepV rfl rfl (execAsgB rfl rfl) ⟨⟨_, rfl, rfl⟩, rfl⟩
    | k_ + 1, h_ => exact absurd h_ (by simp)
  intro a h1 h2 h3 h4
  have t0 : a.eval (.tmp 0) = .slice ao len cap := (h3 0 (by decide)).trans rfl
  have t1 : a.eval (.tmp 1) = .int .i64 ch := (h3 1 (by decide)).trans rfl
  have A : a.tmps.size = 126 ∧ a.defers = [] := ⟨h1, h2⟩
  have BW : Below V.heap.size V V := Below.refl _ _
  clear h1 h2 h3 h4
  refine wp_seq ?_
  refine wp_seq ?_
  refine wp_region_sq (σ := Unit) 126 [(0, 12), (1, 13)] (fun j_ s X => match j_ with | 0 => Below V.heap.size V X | 1 => Below V.heap.size V X | _ => Below V.heap.size V X) (fun s => fun i_ => match i_ with | 0 => .bool true | 1 => .bool false | _ => undef) () A.1 (by kernel_rfl) (by decide) (by decide) (Below.refl _ _) ?_ ?_
  · intro i_ hi_ s a X hf hv hn hS
    match i_, hi_ with
    | 0, _ => exact stepC rfl rfl (execCall0 Try.func7 (by kernel_rfl) (by kernel_rfl) rfl ) (awake9 X) fun e w' hh => ⟨_, hh.1, s, ⟨_, rfl, rfl⟩, (hS).trans ((hh.2).mono (hS).size), fun _ _ => rfl⟩
    | 1, _ => exact stepV rfl rfl (execNot8 rfl (hv 0 (by omega) _ rfl _ rfl)) ⟨s, ⟨_, rfl, rfl⟩, hS, fun _ _ => rfl⟩
    | k_ + 2, h_ => exact absurd h_ (by simp)
  rintro _ a X1 h1 h2 h3 h4 hS
  replace hS : Below V.heap.size V X1 := hS
  have bX := hS
  clear hS
  replace t0 := (h3 0 (by decide)).trans t0
  replace t1 := (h3 1 (by decide)).trans t1
  have t13 : a.eval (.tmp 13) = .bool false := h4 1 _ rfl _ rfl
  replace FP := (FP.on bX)
  have ZX1 := bX.size
  replace BW := BW.trans (bX.mono BW.size)
  clear bX
  replace A := (⟨h1, h2.trans A.2⟩ : a.tmps.size = 126 ∧ a.defers = [])
  clear h1 h2 h3 h4
  refine wp_cond_false t13 ?_
  refine wp_skip ?_
  clear t13
  refine wp_seq ?_
  refine wp_region_sq (σ := Value × Value × Value × (Nat → Value) × Nat) 126 [(0, 15), (1, 16), (2, 17), (3, 14), (4, 18), (5, 19), (6, 5), (8, 6)] (fun j_ s X => match j_ with | 0 => Below X1.heap.size X1 X | 1 => Below X1.heap.size X1 X | 2 => Below X1.heap.size X1 X | 3 => Below X1.heap.size X1 X ∧ (PtS X V.heap.size 0 s.1 s.2.1 s.2.2.1 s.2.2.2.1 0 0 0 f) | 4 => Below X1.heap.size X1 X ∧ (PtS X V.heap.size 0 s.1 s.2.1 s.2.2.1 s.2.2.2.1 0 0 0 f) | 5 => Below X1.heap.size X1 X ∧ (PtS X V.heap.size 0 s.1 s.2.1 s.2.2.1 s.2.2.2.1 0 0 0 f) | 6 => Below X1.heap.size X1 X ∧ (PtS X V.heap.size 0 s.1 s.2.1 s.2.2.1 s.2.2.2.1 0 0 0 f) | 7 => Below X1.heap.size X1 X ∧ (PtS X V.heap.size 0 s.1 s.2.1 s.2.2.1 s.2.2.2.1 0 0 0 f) ∧ X.heap[s.2.2.2.2]? = some (.cells (ptC (.slice none 0 0) (.slice none 0 0) (.slice none 0 0)) 49) ∧ (X1.heap.size ≤ s.2.2.2.2) | 8 => Below X1.heap.size X1 X ∧ (PtS X V.heap.size 0 s.1 s.2.1 s.2.2.1 s.2.2.2.1 0 0 0 f) ∧ (X1.heap.size ≤ s.2.2.2.2) ∧ X.heap[s.2.2.2.2]? = some (.cells (ptC s.1 s.2.1 s.2.2.1) 49) | _ => Below X1.heap.size X1 X ∧ (PtS X V.heap.size 0 s.1 s.2.1 s.2.2.1 s.2.2.2.1 0 0 0 f) ∧ (X1.heap.size ≤ s.2.2.2.2) ∧ X.heap[s.2.2.2.2]? = some (.cells (ptC s.1 s.2.1 s.2.2.1) 49)) (fun s => fun i_ => match i_ with | 0 => .slice ao len cap | 1 => .int .i64 ch | 2 => .tuple #[.agg (ptC s.1 s.2.1 s.2.2.1), .int .i64 ((2 : Nat) : Int)] | 3 => .tuple #[.agg (ptC s.1 s.2.1 s.2.2.1), .int .i64 ((2 : Nat) : Int)] | 4 => .agg (ptC s.1 s.2.1 s.2.2.1) | 5 => .int .i64 ((2 : Nat) : Int) | 6 => .pointer (some ⟨s.2.2.2.2, 0, none⟩) | 7 => undef | 8 => .int .i64 ((2 : Nat) : Int) | _ => undef) (undef, undef, undef, fun _ => undef, 0) A.1 (by kernel_rfl) (by decide) (by decide) (Below.refl _ _) ?_ ?_
  · intro i_ hi_ s a X hf hv hn hS
    match i_, hi_ with
    | 0, _ => exact stepV rfl rfl (execMvB rfl ((hf 0 (by decide)).trans t0)) ⟨s, ⟨_, rfl, rfl⟩, hS, fun _ _ => rfl⟩
    | 1, _ => exact stepV rfl rfl (execMvB rfl ((hf 1 (by decide)).trans t1)) ⟨s, ⟨_, rfl, rfl⟩, hS, fun _ _ => rfl⟩
    | 2, _ =>
      refine stepC rfl rfl (execCall2 Try.func18 (by kernel_rfl) (by kernel_rfl) rfl (hv 0 (by omega) _ rfl _ rfl) (hv 1 (by omega) _ rfl _ rfl)) (split_bad f len ch _ X (FP.on hS) hl 2 (by exact ⟨if_pos (Or.inl h1), by decide⟩)) fun e w' hh => ?_
      obtain ⟨nv_, bv_, cv_, x_, he, hk, hb⟩ := hh
      refine ⟨_, he, (nv_, bv_, cv_, x_, s.2.2.2.2), ⟨_, rfl, rfl⟩, ⟨(hS).trans ((hb).mono (hS).size), hk.base (Nat.le_trans BW.size (hS).size)⟩, fun i hi => ?_⟩
      match i, hi with
      | 0, _ => rfl
      | 1, _ => rfl
      | n_ + 2, h_ => omega
    | 3, _ => exact stepV rfl rfl (execMvB rfl (hv 2 (by omega) _ rfl _ rfl)) ⟨s, ⟨_, rfl, rfl⟩, hS, fun _ _ => rfl⟩
    | 4, _ => exact stepV rfl rfl (execExtT rfl (hv 3 (by omega) _ rfl _ rfl) rfl) ⟨s, ⟨_, rfl, rfl⟩, hS, fun _ _ => rfl⟩
    | 5, _ => exact stepV rfl rfl (execExtT rfl (hv 3 (by omega) _ rfl _ rfl) rfl) ⟨s, ⟨_, rfl, rfl⟩, hS, fun _ _ => rfl⟩
    | 6, _ =>
      refine stepV rfl rfl (execAllPt rfl) ⟨(s.1, s.2.1, s.2.2.1, s.2.2.2.1, X.heap.size), ⟨_, rfl, rfl⟩, ⟨(hS.1).trans (((belNew X _)).mono (hS.1).size), (hS.2.on (belNew X _)), heapNew X _, (hS.1).size⟩, fun i hi => ?_⟩
      match i, hi with
      | 0, _ => rfl
      | 1, _ => rfl
      | 2, _ => rfl
      | 3, _ => rfl
      | 4, _ => rfl
      | 5, _ => rfl
      | n_ + 6, h_ => omega
    | 7, _ => exact stepS rfl rfl (execStPt rfl (hv 6 (by omega) _ rfl _ rfl) (hv 4 (by omega) _ rfl _ rfl) hS.2.2.1 rfl (pts_one hS.2.1)) ⟨s, ⟨_, rfl, rfl⟩, ⟨below4 hS.1 hS.2.2.2 _, (hS.2.1.set hS.2.2.1 (by decide) (by decide)), hS.2.2.2, setRow_heap _ _ _ _ _ _ hS.2.2.1⟩, fun _ _ => rfl⟩
    | 8, _ => exact stepV rfl rfl (execAsgB rfl (hv 5 (by omega) _ rfl _ rfl)) ⟨s, ⟨_, rfl, rfl⟩, hS, fun _ _ => rfl⟩
    | k_ + 9, h_ => exact absurd h_ (by simp)
  rintro ⟨nv, bv, cv, x, g5⟩ a X3 h1 h2 h3 h4 hS
  replace hS : Below X1.heap.size X1 X3 ∧ (PtS X3 V.heap.size 0 nv bv cv x 0 0 0 f) ∧ (X1.heap.size ≤ g5) ∧ X3.heap[g5]? = some (.cells (ptC nv bv cv) 49) := hS
  obtain ⟨bX, FPT, Fge5, F5⟩ := hS
  replace t0 := (h3 0 (by decide)).trans t0
  replace t1 := (h3 1 (by decide)).trans t1
  have t5 : a.eval (.tmp 5) = .pointer (some ⟨g5, 0, none⟩) := h4 6 _ rfl _ rfl
  have t6 : a.eval (.tmp 6) = .int .i64 ((2 : Nat) : Int) := h4 8 _ rfl _ rfl
  replace FP := (FP.on bX)
  have ZX3 := bX.size
  replace BW := BW.trans (bX.mono BW.size)
  clear bX
  replace A := (⟨h1, h2.trans A.2⟩ : a.tmps.size = 126 ∧ a.defers = [])
  clear h1 h2 h3 h4
  refine wp_seq ?_
  refine wp_seq ?_
  refine wp_region_sq (σ := Unit) 126 [(0, 20), (1, 21), (2, 22), (3, 23), (4, 24), (5, 25)] (fun j_ s X => match j_ with | 0 => Below X3.heap.size X3 X | 1 => Below X3.heap.size X3 X | 2 => Below X3.heap.size X3 X | 3 => Below X3.heap.size X3 X | 4 => Below X3.heap.size X3 X | 5 => Below X3.heap.size X3 X | _ => Below X3.heap.size X3 X) (fun s => fun i_ => match i_ with | 0 => .int .i64 ch | 1 => .bool true | 2 => .bool true | 3 => undef | 4 => undef | 5 => .bool true | _ => undef) () A.1 (by kernel_rfl) (by decide) (by decide) (Below.refl _ _) ?_ ?_
  · intro i_ hi_ s a X hf hv hn hS
    match i_, hi_ with
    | 0, _ => exact stepV rfl rfl (execMvB rfl ((hf 1 (by decide)).trans t1)) ⟨s, ⟨_, rfl, rfl⟩, hS, fun _ _ => rfl⟩
    | 1, _ => exact stepV rfl rfl (execLtIt (p := ch) (q := 1) rfl (hv 0 (by omega) _ rfl _ rfl) (by omega)) ⟨s, ⟨_, rfl, rfl⟩, hS, fun _ _ => rfl⟩
    | 2, _ => exact stepV rfl rfl (execMvB rfl (hv 1 (by omega) _ rfl _ rfl)) ⟨s, ⟨_, rfl, rfl⟩, hS, fun _ _ => rfl⟩
    | 3, _ => exact stepU rfl (unwantedOf rfl (yieldedAt rfl rfl (show a.eval (.tmp 22) = .bool (!false) from (hv 2 (by omega) _ rfl _ rfl)))) ⟨s, ⟨_, rfl, rfl⟩, hS, fun _ _ => rfl⟩
    | 4, _ => exact stepU rfl (unwantedOf rfl (yieldedAt rfl rfl (show a.eval (.tmp 22) = .bool (!false) from (hv 2 (by omega) _ rfl _ rfl)))) ⟨s, ⟨_, rfl, rfl⟩, hS, fun _ _ => rfl⟩
    | 5, _ => exact stepV rfl rfl (execPickT rfl (hv 2 (by omega) _ rfl _ rfl) rfl) ⟨s, ⟨_, rfl, rfl⟩, hS, fun _ _ => rfl⟩
    | k_ + 6, h_ => exact absurd h_ (by simp)
  rintro _ a X4 h1 h2 h3 h4 hS
  replace hS : Below X3.heap.size X3 X4 := hS
  have bX := hS
  clear hS
  replace t0 := (h3 0 (by decide)).trans t0
  replace t1 := (h3 1 (by decide)).trans t1
  replace t5 := (h3 5 (by decide)).trans t5
  replace t6 := (h3 6 (by decide)).trans t6
  have t25 : a.eval (.tmp 25) = .bool true := h4 5 _ rfl _ rfl
  replace FP := (FP.on bX)
  replace FPT := (FPT.on bX)
  replace Fge5 := Fge5
  replace F5 := (on9 F5 bX)
  have ZX4 := bX.size
  replace BW := BW.trans (bX.mono BW.size)
  clear bX
  replace A := (⟨h1, h2.trans A.2⟩ : a.tmps.size = 126 ∧ a.defers = [])
  clear h1 h2 h3 h4
  refine wp_cond_true t25 ?_
  refine wp_seq ?_
  refine wp_region_sq (σ := Value) 126 [(0, 26), (1, 27), (2, 28), (3, 29), (4, 30), (5, 31), (6, 32), (7, 33), (8, 4)] (fun j_ s X => match j_ with | 0 => Below X4.heap.size X4 X | 1 => Below X4.heap.size X4 X | 2 => Below X4.heap.size X4 X | 3 => Below X4.heap.size X4 X | 4 => Below X4.heap.size X4 X | 5 => Below X4.heap.size X4 X ∧ X.ownsRow (X4.heap.size) 27 1 s (2 + 0) (lL (ptX nv bv x) (2 + 0)) | 6 => Below X4.heap.size X4 X ∧ X.ownsRow (X4.heap.size) 27 1 s (2 + 0) (lL (ptX nv bv x) (2 + 0)) | 7 => Below X4.heap.size X4 X ∧ X.ownsRow (X4.heap.size) 27 1 s (2 + 0) (lL (ptX nv bv x) (2 + 0)) | 8 => Below X4.heap.size X4 X ∧ X.ownsRow (X4.heap.size) 27 1 s (2 + 0) (lL (ptX nv bv x) (2 + 0)) | _ => Below X4.heap.size X4 X ∧ X.ownsRow (X4.heap.size) 27 1 s (2 + 0) (lL (ptX nv bv x) (2 + 0))) (fun s => fun i_ => match i_ with | 0 => .int .i64 ((2 : Nat) : Int) | 1 => .bool true | 2 => .bool true | 3 => .agg (ptC nv bv cv) | 4 => s | 5 => .int .i64 ((2 + 0 : Nat) : Int) | 6 => .bool true | 7 => .bool true | 8 => .bool true | _ => undef) undef A.1 (by kernel_rfl) (by decide) (by decide) (Below.refl _ _) ?_ ?_
  · intro i_ hi_ s a X hf hv hn hS
    match i_, hi_ with
    | 0, _ => exact stepV rfl rfl (execMvB rfl ((hf 6 (by decide)).trans t6)) ⟨s, ⟨_, rfl, rfl⟩, hS, fun _ _ => rfl⟩
    | 1, _ => exact stepV rfl rfl (execDec (execEqE (p := 2) (q := 2) rfl (hv 0 (by omega) _ rfl _ rfl) rfl) (decide_eq_true (by omega))) ⟨s, ⟨_, rfl, rfl⟩, hS, fun _ _ => rfl⟩
    | 2, _ => exact stepV rfl rfl (execMvB rfl (hv 1 (by omega) _ rfl _ rfl)) ⟨s, ⟨_, rfl, rfl⟩, hS, fun _ _ => rfl⟩
    | 3, _ => exact stepV rfl (wantedOf rfl (yieldedAt rfl rfl (show a.eval (.tmp 28) = .bool true from (hv 2 (by omega) _ rfl _ rfl)))) (execLdPt rfl ((hf 5 (by decide)).trans t5) (on9 F5 hS)) ⟨s, ⟨_, rfl, rfl⟩, hS, fun _ _ => rfl⟩
    | 4, _ =>
      refine stepC rfl (wantedOf rfl (yieldedAt rfl rfl (show a.eval (.tmp 28) = .bool true from (hv 2 (by omega) _ rfl _ rfl)))) (execCall1 Try.func21 (by kernel_rfl) (by kernel_rfl) rfl (hv 3 (by omega) _ rfl _ rfl)) (lists_pt (FPT.on hS) (by omega)) fun e w' hh => ?_
      obtain ⟨r_, he, hk, hb⟩ := hh
      refine ⟨_, he, r_, ⟨_, rfl, rfl⟩, ⟨(hS).trans ((hb).mono (hS).size), ownW_base9 hk (hS).size⟩, fun i hi => ?_⟩
      match i, hi with
      | 0, _ => rfl
      | 1, _ => rfl
      | 2, _ => rfl
      | 3, _ => rfl
      | n_ + 4, h_ => omega
    | 5, _ => exact stepV rfl (wantedOf rfl (yieldedAt rfl rfl (show a.eval (.tmp 28) = .bool true from (hv 2 (by omega) _ rfl _ rfl)))) (execLenLs (len := 2 + 0) rfl (hv 4 (by omega) _ rfl _ rfl) (ownQ_shape hS.2)) ⟨s, ⟨_, rfl, rfl⟩, hS, fun _ _ => rfl⟩
    | 6, _ => exact stepV rfl (wantedOf rfl (yieldedAt rfl rfl (show a.eval (.tmp 28) = .bool true from (hv 2 (by omega) _ rfl _ rfl)))) (execDec (execEqN (p := 2 + 0) (q := 2) rfl (hv 5 (by omega) _ rfl _ rfl) rfl) (decide_eq_true (by omega))) ⟨s, ⟨_, rfl, rfl⟩, hS, fun _ _ => rfl⟩
    | 7, _ => exact stepV rfl rfl (execPickT rfl (hv 2 (by omega) _ rfl _ rfl) (hv 6 (by omega) _ rfl _ rfl)) ⟨s, ⟨_, rfl, rfl⟩, hS, fun _ _ => rfl⟩
    | 8, _ => exact stepV rfl rfl (execAsgB rfl (hv 7 (by omega) _ rfl _ rfl)) ⟨s, ⟨_, rfl, rfl⟩, hS, fun _ _ => rfl⟩
    | k_ + 9, h_ => exact absurd h_ (by simp)
  rintro r30 a X5 h1 h2 h3 h4 hS
  replace hS : Below X4.heap.size X4 X5 ∧ X5.ownsRow (X4.heap.size) 27 1 r30 (2 + 0) (lL (ptX nv bv x) (2 + 0)) := hS
  obtain ⟨bX, Fr30⟩ := hS
  have t4 : a.eval (.tmp 4) = .bool true := h4 8 _ rfl _ rfl
  replace FP := (FP.on bX)
  replace FPT := (FPT.on bX)
  replace Fge5 := Fge5
  replace F5 := (on9 F5 bX)
  have ZX5 := bX.size
  replace BW := BW.trans (bX.mono BW.size)
  clear bX
  replace A := (⟨h1, h2.trans A.2⟩ : a.tmps.size = 126 ∧ a.defers = [])
  clear h1 h2 h3 h4
  clear t0 t1 t5 t6 t25
  refine wp_ret ?_
  refine ret_then ?_
  refine bodyPost_ret (results_tmp rfl _ _ _) A.2 ⟨?_, BW⟩
  show Ending.returned (a.eval (.tmp 4)) = _
  rw [t4]
set_option maxRecDepth 100000 in
set_option maxHeartbeats 4000000 in
theorem parts_hi (f : Nat → Nat) (len : Nat) (ch : Int) (v : Value) (V : World) (hv : SliceN V v len f) (hl : len ≤ 140737488351232) (h1 : 64 < ch) :
    Calls Try.prog 5 #[v, .int .i64 ch] V fun e w' => e = .returned (.bool true) ∧ Below V.heap.size V w' := by
  obtain ⟨ao, cap, rfl, hcl, _⟩ := id hv.shape
  have FP := hv
  have hp := hv.bytes
  clear hv
  go_enter Try.func5, Try.ntmps5
  refine wp_seq ?_
  refine wp_region_sqK 126 [(0, 4)] (fun i_ => match i_ with | 0 => .bool false | _ => undef) rfl (by kernel_rfl) (by decide) (by decide) ?_ ?_
  · intro i_ hi_ a hf hv hn
    match i_, hi_ with
    | 0, _ => exact stepV rfl rfl (execAsgB rfl rfl) ⟨⟨_, rfl, rfl⟩, rfl⟩
    | k_ + 1, h_ => exact absurd h_ (by simp)
  intro a h1 h2 h3 h4
  have t0 : a.eval (.tmp 0) = .slice ao len cap := (h3 0 (by decide)).trans rfl
  have t1 : a.eval (.tmp 1) = .int .i64 ch := (h3 1 (by decide)).trans rfl
  have A : a.tmps.size = 126 ∧ a.defers = [] := ⟨h1, h2⟩
  have BW : Below V.heap.size V V := Below.refl _ _
  clear h1 h2 h3 h4
  refine wp_seq ?_
  refine wp_seq ?_
  refine wp_region_sq (σ := Unit) 126 [(0, 12), (1, 13)] (fun j_ s X => match j_ with | 0 => Below V.heap.size V X | 1 => Below V.heap.size V X | _ => Below V.heap.size V X) (fun s => fun i_ => match i_ with | 0 => .bool true | 1 => .bool false | _ => undef) () A.1 (by kernel_rfl) (by decide) (by decide) (Below.refl _ _) ?_ ?_
  · intro i_ hi_ s a X hf hv hn hS
    match i_, hi_ with
    | 0, _ => exact stepC rfl rfl (execCall0 Try.func7 (by kernel_rfl) (by kernel_rfl) rfl ) (awake9 X) fun e w' hh => ⟨_, hh.1, s, ⟨_, rfl, rfl⟩, (hS).trans ((hh.2).mono (hS).size), fun _ _ => rfl⟩
    | 1, _ => exact stepV rfl rfl (execNot8 rfl (hv 0 (by omega) _ rfl _ rfl)) ⟨s, ⟨_, rfl, rfl⟩, hS, fun _ _ => rfl⟩
    | k_ + 2, h_ => exact absurd h_ (by simp)
  rintro _ a X1 h1 h2 h3 h4 hS
  replace hS : Below V.heap.size V X1 := hS
  have bX := hS
  clear hS
  replace t0 := (h3 0 (by decide)).trans t0
  replace t1 := (h3 1 (by decide)).trans t1
  have t13 : a.eval (.tmp 13) = .bool false := h4 1 _ rfl _ rfl
  replace FP := (FP.on bX)
  have ZX1 := bX.size
  replace BW := BW.trans (bX.mono BW.size)
  clear bX
  replace A := (⟨h1, h2.trans A.2⟩ : a.tmps.size = 126 ∧ a.defers = [])
  clear h1 h2 h3 h4
  refine wp_cond_false t13 ?_
  refine wp_skip ?_
  clear t13
  refine wp_seq ?_
  refine wp_region_sq (σ := Value × Value × Value × (Nat → Value) × Nat) 126 [(0, 15), (1, 16), (2, 17), (3, 14), (4, 18), (5, 19), (6, 5), (8, 6)] (fun j_ s X => match j_ with | 0 => Below X1.heap.size X1 X | 1 => Below X1.heap.size X1 X | 2 => Below X1.heap.size X1 X | 3 => Below X1.heap.size X1 X ∧ (PtS X V.heap.size 0 s.1 s.2.1 s.2.2.1 s.2.2.2.1 0 0 0 f) | 4 => Below X1.heap.size X1 X ∧ (PtS X V.heap.size 0 s.1 s.2.1 s.2.2.1 s.2.2.2.1 0 0 0 f) | 5 => Below X1.heap.size X1 X ∧ (PtS X V.heap.size 0 s.1 s.2.1 s.2.2.1 s.2.2.2.1 0 0 0 f) | 6 => Below X1.heap.size X1 X ∧ (PtS X V.heap.size 0 s.1 s.2.1 s.2.2.1 s.2.2.2.1 0 0 0 f) | 7 => Below X1.heap.size X1 X ∧ (PtS X V.heap.size 0 s.1 s.2.1 s.2.2.1 s.2.2.2.1 0 0 0 f) ∧ X.heap[s.2.2.2.2]? = some (.cells (ptC (.slice none 0 0) (.slice none 0 0) (.slice none 0 0)) 49) ∧ (X1.heap.size ≤ s.2.2.2.2) | 8 => Below X1.heap.size X1 X ∧ (PtS X V.heap.size 0 s.1 s.2.1 s.2.2.1 s.2.2.2.1 0 0 0 f) ∧ (X1.heap.size ≤ s.2.2.2.2) ∧ X.heap[s.2.2.2.2]? = some (.cells (ptC s.1 s.2.1 s.2.2.1) 49) | _ => Below X1.heap.size X1 X ∧ (PtS X V.heap.size 0 s.1 s.2.1 s.2.2.1 s.2.2.2.1 0 0 0 f) ∧ (X1.heap.size ≤ s.2.2.2.2) ∧ X.heap[s.2.2.2.2]? = some (.cells (ptC s.1 s.2.1 s.2.2.1) 49)) (fun s => fun i_ => match i_ with | 0 => .slice ao len cap | 1 => .int .i64 ch | 2 => .tuple #[.agg (ptC s.1 s.2.1 s.2.2.1), .int .i64 ((2 : Nat) : Int)] | 3 => .tuple #[.agg (ptC s.1 s.2.1 s.2.2.1), .int .i64 ((2 : Nat) : Int)] | 4 => .agg (ptC s.1 s.2.1 s.2.2.1) | 5 => .int .i64 ((2 : Nat) : Int) | 6 => .pointer (some ⟨s.2.2.2.2, 0, none⟩) | 7 => undef | 8 => .int .i64 ((2 : Nat) : Int) | _ => undef) (undef, undef, undef, fun _ => undef, 0) A.1 (by kernel_rfl) (by decide) (by decide) (Below.refl _ _) ?_ ?_
  · intro i_ hi_ s a X hf hv hn hS
    match i_, hi_ with
    | 0, _ => exact stepV rfl rfl (execMvB rfl ((hf 0 (by decide)).trans t0)) ⟨s, ⟨_, rfl, rfl⟩, hS, fun _ _ => rfl⟩
    | 1, _ => exact stepV rfl rfl (execMvB rfl ((hf 1 (by decide)).trans t1)) ⟨s, ⟨_, rfl, rfl⟩, hS, fun _ _ => rfl⟩
    | 2, _ =>
      refine stepC rfl rfl (execCall2 Try.func18 (by kernel_rfl) (by kernel_rfl) rfl (hv 0 (by omega) _ rfl _ rfl) (hv 1 (by omega) _ rfl _ rfl)) (split_bad f len ch _ X (FP.on hS) hl 2 (by exact ⟨if_pos (Or.inr h1), by decide⟩)) fun e w' hh => ?_
      obtain ⟨nv_, bv_, cv_, x_, he, hk, hb⟩ := hh
      refine ⟨_, he, (nv_, bv_, cv_, x_, s.2.2.2.2), ⟨_, rfl, rfl⟩, ⟨(hS).trans ((hb).mono (hS).size), hk.base (Nat.le_trans BW.size (hS).size)⟩, fun i hi => ?_⟩
      match i, hi with
      | 0, _ => rfl
      | 1, _ => rfl
      | n_ + 2, h_ => omega
    | 3, _ => exact stepV rfl rfl (execMvB rfl (hv 2 (by omega) _ rfl _ rfl)) ⟨s, ⟨_, rfl, rfl⟩, hS, fun _ _ => rfl⟩
    | 4, _ => exact stepV rfl rfl (execExtT rfl (hv 3 (by omega) _ rfl _ rfl) rfl) ⟨s, ⟨_, rfl, rfl⟩, hS, fun _ _ => rfl⟩
    | 5, _ => exact stepV rfl rfl (execExtT rfl (hv 3 (by omega) _ rfl _ rfl) rfl) ⟨s, ⟨_, rfl, rfl⟩, hS, fun _ _ => rfl⟩
    | 6, _ =>
      refine stepV rfl rfl (execAllPt rfl) ⟨(s.1, s.2.1, s.2.2.1, s.2.2.2.1, X.heap.size), ⟨_, rfl, rfl⟩, ⟨(hS.1).trans (((belNew X _)).mono (hS.1).size), (hS.2.on (belNew X _)), heapNew X _, (hS.1).size⟩, fun i hi => ?_⟩
      match i, hi with
      | 0, _ => rfl
      | 1, _ => rfl
      | 2, _ => rfl
      | 3, _ => rfl
      | 4, _ => rfl
      | 5, _ => rfl
      | n_ + 6, h_ => omega
    | 7, _ => exact stepS rfl rfl (execStPt rfl (hv 6 (by omega) _ rfl _ rfl) (hv 4 (by omega) _ rfl _ rfl) hS.2.2.1 rfl (pts_one hS.2.1)) ⟨s, ⟨_, rfl, rfl⟩, ⟨below4 hS.1 hS.2.2.2 _, (hS.2.1.set hS.2.2.1 (by decide) (by decide)), hS.2.2.2, setRow_heap _ _ _ _ _ _ hS.2.2.1⟩, fun _ _ => rfl⟩
    | 8, _ => exact stepV rfl rfl (execAsgB rfl (hv 5 (by omega) _ rfl _ rfl)) ⟨s, ⟨_, rfl, rfl⟩, hS, fun _ _ => rfl⟩
    | k_ + 9, h_ => exact absurd h_ (by simp)
  rintro ⟨nv, bv, cv, x, g5⟩ a X3 h1 h2 h3 h4 hS
  replace hS : Below X1.heap.size X1 X3 ∧ (PtS X3 V.heap.size 0 nv bv cv x 0 0 0 f) ∧ (X1.heap.size ≤ g5) ∧ X3.heap[g5]? = some (.cells (ptC nv bv cv) 49) := hS
  obtain ⟨bX, FPT, Fge5, F5⟩ := hS
  replace t0 := (h3 0 (by decide)).trans t0
  replace t1 := (h3 1 (by decide)).trans t1
  have t5 : a.eval (.tmp 5) = .pointer (some ⟨g5, 0, none⟩) := h4 6 _ rfl _ rfl
  have t6 : a.eval (.tmp 6) = .int .i64 ((2 : Nat) : Int) := h4 8 _ rfl _ rfl
  replace FP := (FP.on bX)
  have ZX3 := bX.size
  replace BW := BW.trans (bX.mono BW.size)
  clear bX
  replace A := (⟨h1, h2.trans A.2⟩ : a.tmps.size = 126 ∧ a.defers = [])
  clear h1 h2 h3 h4
  refine wp_seq ?_
  refine wp_seq ?_
  refine wp_region_sq (σ := Unit) 126 [(0, 20), (1, 21), (2, 22), (3, 23), (4, 24), (5, 25)] (fun j_ s X => match j_ with | 0 => Below X3.heap.size X3 X | 1 => Below X3.heap.size X3 X | 2 => Below X3.heap.size X3 X | 3 => Below X3.heap.size X3 X | 4 => Below X3.heap.size X3 X | 5 => Below X3.heap.size X3 X | _ => Below X3.heap.size X3 X) (fun s => fun i_ => match i_ with | 0 => .int .i64 ch | 1 => .bool false | 2 => .bool false | 3 => .int .i64 ch | 4 => .bool true | 5 => .bool true | _ => undef) () A.1 (by kernel_rfl) (by decide) (by decide) (Below.refl _ _) ?_ ?_
  · intro i_ hi_ s a X hf hv hn hS
    match i_, hi_ with
    | 0, _ => exact stepV rfl rfl (execMvB rfl ((hf 1 (by decide)).trans t1)) ⟨s, ⟨_, rfl, rfl⟩, hS, fun _ _ => rfl⟩
    | 1, _ => exact stepV rfl rfl (execLtIf (p := ch) (q := 1) rfl (hv 0 (by omega) _ rfl _ rfl) (by omega)) ⟨s, ⟨_, rfl, rfl⟩, hS, fun _ _ => rfl⟩
    | 2, _ => exact stepV rfl rfl (execMvB rfl (hv 1 (by omega) _ rfl _ rfl)) ⟨s, ⟨_, rfl, rfl⟩, hS, fun _ _ => rfl⟩
    | 3, _ => exact stepV rfl (wantedOf rfl (yieldedAt rfl rfl (show a.eval (.tmp 22) = .bool false from (hv 2 (by omega) _ rfl _ rfl)))) (execMvB rfl ((hf 1 (by decide)).trans t1)) ⟨s, ⟨_, rfl, rfl⟩, hS, fun _ _ => rfl⟩
    | 4, _ => exact stepV rfl (wantedOf rfl (yieldedAt rfl rfl (show a.eval (.tmp 22) = .bool false from (hv 2 (by omega) _ rfl _ rfl)))) (execGtIt (p := ch) (q := 64) rfl (hv 3 (by omega) _ rfl _ rfl) (by omega)) ⟨s, ⟨_, rfl, rfl⟩, hS, fun _ _ => rfl⟩
    | 5, _ => exact stepV rfl rfl (execPickF rfl (hv 2 (by omega) _ rfl _ rfl) (hv 4 (by omega) _ rfl _ rfl)) ⟨s, ⟨_, rfl, rfl⟩, hS, fun _ _ => rfl⟩
    | k_ + 6, h_ => exact absurd h_ (by simp)
  rintro _ a X4 h1 h2 h3 h4 hS
  replace hS : Below X3.heap.size X3 X4 := hS
  have bX := hS
  clear hS
  replace t0 := (h3 0 (by decide)).trans t0
  replace t1 := (h3 1 (by decide)).trans t1
  replace t5 := (h3 5 (by decide)).trans t5
  replace t6 := (h3 6 (by decide)).trans t6
  have t25 : a.eval (.tmp 25) = .bool true := h4 5 _ rfl _ rfl
  replace FP := (FP.on bX)
  replace FPT := (FPT.on bX)
  replace Fge5 := Fge5
  replace F5 := (on9 F5 bX)
  have ZX4 := bX.size
  replace BW := BW.trans (bX.mono BW.size)
  clear bX
  replace A := (⟨h1, h2.trans A.2⟩ : a.tmps.size = 126 ∧ a.defers = [])
  clear h1 h2 h3 h4
  refine wp_cond_true t25 ?_
  refine wp_seq ?_
  refine wp_region_sq (σ := Value) 126 [(0, 26), (1, 27), (2, 28), (3, 29), (4, 30), (5, 31), (6, 32), (7, 33), (8, 4)] (fun j_ s X => match j_ with | 0 => Below X4.heap.size X4 X | 1 => Below X4.heap.size X4 X | 2 => Below X4.heap.size X4 X | 3 => Below X4.heap.size X4 X | 4 => Below X4.heap.size X4 X | 5 => Below X4.heap.size X4 X ∧ X.ownsRow (X4.heap.size) 27 1 s (2 + 0) (lL (ptX nv bv x) (2 + 0)) | 6 => Below X4.heap.size X4 X ∧ X.ownsRow (X4.heap.size) 27 1 s (2 + 0) (lL (ptX nv bv x) (2 + 0)) | 7 => Below X4.heap.size X4 X ∧ X.ownsRow (X4.heap.size) 27 1 s (2 + 0) (lL (ptX nv bv x) (2 + 0)) | 8 => Below X4.heap.size X4 X ∧ X.ownsRow (X4.heap.size) 27 1 s (2 + 0) (lL (ptX nv bv x) (2 + 0)) | _ => Below X4.heap.size X4 X ∧ X.ownsRow (X4.heap.size) 27 1 s (2 + 0) (lL (ptX nv bv x) (2 + 0))) (fun s => fun i_ => match i_ with | 0 => .int .i64 ((2 : Nat) : Int) | 1 => .bool true | 2 => .bool true | 3 => .agg (ptC nv bv cv) | 4 => s | 5 => .int .i64 ((2 + 0 : Nat) : Int) | 6 => .bool true | 7 => .bool true | 8 => .bool true | _ => undef) undef A.1 (by kernel_rfl) (by decide) (by decide) (Below.refl _ _) ?_ ?_
  · intro i_ hi_ s a X hf hv hn hS
    match i_, hi_ with
    | 0, _ => exact stepV rfl rfl (execMvB rfl ((hf 6 (by decide)).trans t6)) ⟨s, ⟨_, rfl, rfl⟩, hS, fun _ _ => rfl⟩
    | 1, _ => exact stepV rfl rfl (execDec (execEqE (p := 2) (q := 2) rfl (hv 0 (by omega) _ rfl _ rfl) rfl) (decide_eq_true (by omega))) ⟨s, ⟨_, rfl, rfl⟩, hS, fun _ _ => rfl⟩
    | 2, _ => exact stepV rfl rfl (execMvB rfl (hv 1 (by omega) _ rfl _ rfl)) ⟨s, ⟨_, rfl, rfl⟩, hS, fun _ _ => rfl⟩
    | 3, _ => exact stepV rfl (wantedOf rfl (yieldedAt rfl rfl (show a.eval (.tmp 28) = .bool true from (hv 2 (by omega) _ rfl _ rfl)))) (execLdPt rfl ((hf 5 (by decide)).trans t5) (on9 F5 hS)) ⟨s, ⟨_, rfl, rfl⟩, hS, fun _ _ => rfl⟩
    | 4, _ =>
      refine stepC rfl (wantedOf rfl (yieldedAt rfl rfl (show a.eval (.tmp 28) = .bool true from (hv 2 (by omega) _ rfl _ rfl)))) (execCall1 Try.func21 (by kernel_rfl) (by kernel_rfl) rfl (hv 3 (by omega) _ rfl _ rfl)) (lists_pt (FPT.on hS) (by omega)) fun e w' hh => ?_
      obtain ⟨r_, he, hk, hb⟩ := hh
      refine ⟨_, he, r_, ⟨_, rfl, rfl⟩, ⟨(hS).trans ((hb).mono (hS).size), ownW_base9 hk (hS).size⟩, fun i hi => ?_⟩
      match i, hi with
      | 0, _ => rfl
      | 1, _ => rfl
      | 2, _ => rfl
      | 3, _ => rfl
      | n_ + 4, h_ => omega
    | 5, _ => exact stepV rfl (wantedOf rfl (yieldedAt rfl rfl (show a.eval (.tmp 28) = .bool true from (hv 2 (by omega) _ rfl _ rfl)))) (execLenLs (len := 2 + 0) rfl (hv 4 (by omega) _ rfl _ rfl) (ownQ_shape hS.2)) ⟨s, ⟨_, rfl, rfl⟩, hS, fun _ _ => rfl⟩
    | 6, _ => exact stepV rfl (wantedOf rfl (yieldedAt rfl rfl (show a.eval (.tmp 28) = .bool true from (hv 2 (by omega) _ rfl _ rfl)))) (execDec (execEqN (p := 2 + 0) (q := 2) rfl (hv 5 (by omega) _ rfl _ rfl) rfl) (decide_eq_true (by omega))) ⟨s, ⟨_, rfl, rfl⟩, hS, fun _ _ => rfl⟩
    | 7, _ => exact stepV rfl rfl (execPickT rfl (hv 2 (by omega) _ rfl _ rfl) (hv 6 (by omega) _ rfl _ rfl)) ⟨s, ⟨_, rfl, rfl⟩, hS, fun _ _ => rfl⟩
    | 8, _ => exact stepV rfl rfl (execAsgB rfl (hv 7 (by omega) _ rfl _ rfl)) ⟨s, ⟨_, rfl, rfl⟩, hS, fun _ _ => rfl⟩
    | k_ + 9, h_ => exact absurd h_ (by simp)
  rintro r30 a X5 h1 h2 h3 h4 hS
  replace hS : Below X4.heap.size X4 X5 ∧ X5.ownsRow (X4.heap.size) 27 1 r30 (2 + 0) (lL (ptX nv bv x) (2 + 0)) := hS
  obtain ⟨bX, Fr30⟩ := hS
  have t4 : a.eval (.tmp 4) = .bool true := h4 8 _ rfl _ rfl
  replace FP := (FP.on bX)
  replace FPT := (FPT.on bX)
  replace Fge5 := Fge5
  replace F5 := (on9 F5 bX)
  have ZX5 := bX.size
  replace BW := BW.trans (bX.mono BW.size)
  clear bX
  replace A := (⟨h1, h2.trans A.2⟩ : a.tmps.size = 126 ∧ a.defers = [])
  clear h1 h2 h3 h4
  clear t0 t1 t5 t6 t25
  refine wp_ret ?_
  refine ret_then ?_
  refine bodyPost_ret (results_tmp rfl _ _ _) A.2 ⟨?_, BW⟩
  show Ending.returned (a.eval (.tmp 4)) = _
  rw [t4]
set_option maxRecDepth 100000 in
set_option maxHeartbeats 4000000 in
theorem parts_short (f : Nat → Nat) (len : Nat) (ch : Int) (v : Value) (V : World) (hv : SliceN V v len f) (hl : len ≤ 140737488351232) (h1 : ¬ ch < 1) (h2 : ¬ 64 < ch) (h3 : len < 18) :
    Calls Try.prog 5 #[v, .int .i64 ch] V fun e w' => e = .returned (.bool true) ∧ Below V.heap.size V w' := by
  obtain ⟨ao, cap, rfl, hcl, _⟩ := id hv.shape
  have FP := hv
  have hp := hv.bytes
  clear hv
  go_enter Try.func5, Try.ntmps5
  refine wp_seq ?_
  refine wp_region_sqK 126 [(0, 4)] (fun i_ => match i_ with | 0 => .bool false | _ => undef) rfl (by kernel_rfl) (by decide) (by decide) ?_ ?_
  · intro i_ hi_ a hf hv hn
    match i_, hi_ with
    | 0, _ => exact stepV rfl rfl (execAsgB rfl rfl) ⟨⟨_, rfl, rfl⟩, rfl⟩
    | k_ + 1, h_ => exact absurd h_ (by simp)
  intro a h1 h2 h3 h4
  have t0 : a.eval (.tmp 0) = .slice ao len cap := (h3 0 (by decide)).trans rfl
  have t1 : a.eval (.tmp 1) = .int .i64 ch := (h3 1 (by decide)).trans rfl
  have A : a.tmps.size = 126 ∧ a.defers = [] := ⟨h1, h2⟩
  have BW : Below V.heap.size V V := Below.refl _ _
  clear h1 h2 h3 h4
  refine wp_seq ?_
  refine wp_seq ?_
  refine wp_region_sq (σ := Unit) 126 [(0, 12), (1, 13)] (fun j_ s X => match j_ with | 0 => Below V.heap.size V X | 1 => Below V.heap.size V X | _ => Below V.heap.size V X) (fun s => fun i_ => match i_ with | 0 => .bool true | 1 => .bool false | _ => undef) () A.1 (by kernel_rfl) (by decide) (by decide) (Below.refl _ _) ?_ ?_
  · intro i_ hi_ s a X hf hv hn hS
    match i_, hi_ with
    | 0, _ => exact stepC rfl rfl (execCall0 Try.func7 (by kernel_rfl) (by kernel_rfl) rfl ) (awake9 X) fun e w' hh => ⟨_, hh.1, s, ⟨_, rfl, rfl⟩, (hS).trans ((hh.2).mono (hS).size), fun _ _ => rfl⟩
    | 1, _ => exact stepV rfl rfl (execNot8 rfl (hv 0 (by omega) _ rfl _ rfl)) ⟨s, ⟨_, rfl, rfl⟩, hS, fun _ _ => rfl⟩
    | k_ + 2, h_ => exact absurd h_ (by simp)
  rintro _ a X1 h1 h2 h3 h4 hS
  replace hS : Below V.heap.size V X1 := hS
  have bX := hS
  clear hS
  replace t0 := (h3 0 (by decide)).trans t0
  replace t1 := (h3 1 (by decide)).trans t1
  have t13 : a.eval (.tmp 13) = .bool false := h4 1 _ rfl _ rfl
  replace FP := (FP.on bX)
  have ZX1 := bX.size
  replace BW := BW.trans (bX.mono BW.size)
  clear bX
  replace A := (⟨h1, h2.trans A.2⟩ : a.tmps.size = 126 ∧ a.defers = [])
  clear h1 h2 h3 h4
  refine wp_cond_false t13 ?_
  refine wp_skip ?_
  clear t13
  refine wp_seq ?_
  refine wp_region_sq (σ := Value × Value × Value × (Nat → Value) × Nat) 126 [(0, 15), (1, 16), (2, 17), (3, 14), (4, 18), (5, 19), (6, 5), (8, 6)] (fun j_ s X => match j_ with | 0 => Below X1.heap.size X1 X | 1 => Below X1.heap.size X1 X | 2 => Below X1.heap.size X1 X | 3 => Below X1.heap.size X1 X ∧ (PtS X V.heap.size 0 s.1 s.2.1 s.2.2.1 s.2.2.2.1 0 0 0 f) | 4 => Below X1.heap.size X1 X ∧ (PtS X V.heap.size 0 s.1 s.2.1 s.2.2.1 s.2.2.2.1 0 0 0 f) | 5 => Below X1.heap.size X1 X ∧ (PtS X V.heap.size 0 s.1 s.2.1 s.2.2.1 s.2.2.2.1 0 0 0 f) | 6 => Below X1.heap.size X1 X ∧ (PtS X V.heap.size 0 s.1 s.2.1 s.2.2.1 s.2.2.2.1 0 0 0 f) | 7 => Below X1.heap.size X1 X ∧ (PtS X V.heap.size 0 s.1 s.2.1 s.2.2.1 s.2.2.2.1 0 0 0 f) ∧ X.heap[s.2.2.2.2]? = some (.cells (ptC (.slice none 0 0) (.slice none 0 0) (.slice none 0 0)) 49) ∧ (X1.heap.size ≤ s.2.2.2.2) | 8 => Below X1.heap.size X1 X ∧ (PtS X V.heap.size 0 s.1 s.2.1 s.2.2.1 s.2.2.2.1 0 0 0 f) ∧ (X1.heap.size ≤ s.2.2.2.2) ∧ X.heap[s.2.2.2.2]? = some (.cells (ptC s.1 s.2.1 s.2.2.1) 49) | _ => Below X1.heap.size X1 X ∧ (PtS X V.heap.size 0 s.1 s.2.1 s.2.2.1 s.2.2.2.1 0 0 0 f) ∧ (X1.heap.size ≤ s.2.2.2.2) ∧ X.heap[s.2.2.2.2]? = some (.cells (ptC s.1 s.2.1 s.2.2.1) 49)) (fun s => fun i_ => match i_ with | 0 => .slice ao len cap | 1 => .int .i64 ch | 2 => .tuple #[.agg (ptC s.1 s.2.1 s.2.2.1), .int .i64 ((3 : Nat) : Int)] | 3 => .tuple #[.agg (ptC s.1 s.2.1 s.2.2.1), .int .i64 ((3 : Nat) : Int)] | 4 => .agg (ptC s.1 s.2.1 s.2.2.1) | 5 => .int .i64 ((3 : Nat) : Int) | 6 => .pointer (some ⟨s.2.2.2.2, 0, none⟩) | 7 => undef | 8 => .int .i64 ((3 : Nat) : Int) | _ => undef) (undef, undef, undef, fun _ => undef, 0) A.1 (by kernel_rfl) (by decide) (by decide) (Below.refl _ _) ?_ ?_
  · intro i_ hi_ s a X hf hv hn hS
    match i_, hi_ with
    | 0, _ => exact stepV rfl rfl (execMvB rfl ((hf 0 (by decide)).trans t0)) ⟨s, ⟨_, rfl, rfl⟩, hS, fun _ _ => rfl⟩
    | 1, _ => exact stepV rfl rfl (execMvB rfl ((hf 1 (by decide)).trans t1)) ⟨s, ⟨_, rfl, rfl⟩, hS, fun _ _ => rfl⟩
    | 2, _ =>
      refine stepC rfl rfl (execCall2 Try.func18 (by kernel_rfl) (by kernel_rfl) rfl (hv 0 (by omega) _ rfl _ rfl) (hv 1 (by omega) _ rfl _ rfl)) (split_bad f len ch _ X (FP.on hS) hl 3 (by exact ⟨by unfold spE; rw [if_neg (by omega), if_pos h3], by decide⟩)) fun e w' hh => ?_
      obtain ⟨nv_, bv_, cv_, x_, he, hk, hb⟩ := hh
      refine ⟨_, he, (nv_, bv_, cv_, x_, s.2.2.2.2), ⟨_, rfl, rfl⟩, ⟨(hS).trans ((hb).mono (hS).size), hk.base (Nat.le_trans BW.size (hS).size)⟩, fun i hi => ?_⟩
      match i, hi with
      | 0, _ => rfl
      | 1, _ => rfl
      | n_ + 2, h_ => omega
    | 3, _ => exact stepV rfl rfl (execMvB rfl (hv 2 (by omega) _ rfl _ rfl)) ⟨s, ⟨_, rfl, rfl⟩, hS, fun _ _ => rfl⟩
    | 4, _ => exact stepV rfl rfl (execExtT rfl (hv 3 (by omega) _ rfl _ rfl) rfl) ⟨s, ⟨_, rfl, rfl⟩, hS, fun _ _ => rfl⟩
    | 5, _ => exact stepV rfl rfl (execExtT rfl (hv 3 (by omega) _ rfl _ rfl) rfl) ⟨s, ⟨_, rfl, rfl⟩, hS, fun _ _ => rfl⟩
    | 6, _ =>
      refine stepV rfl rfl (execAllPt rfl) ⟨(s.1, s.2.1, s.2.2.1, s.2.2.2.1, X.heap.size), ⟨_, rfl, rfl⟩, ⟨(hS.1).trans (((belNew X _)).mono (hS.1).size), (hS.2.on (belNew X _)), heapNew X _, (hS.1).size⟩, fun i hi => ?_⟩
      match i, hi with
      | 0, _ => rfl
      | 1, _ => rfl
      | 2, _ => rfl
      | 3, _ => rfl
      | 4, _ => rfl
      | 5, _ => rfl
      | n_ + 6, h_ => omega
    | 7, _ => exact stepS rfl rfl (execStPt rfl (hv 6 (by omega) _ rfl _ rfl) (hv 4 (by omega) _ rfl _ rfl) hS.2.2.1 rfl (pts_one hS.2.1)) ⟨s, ⟨_, rfl, rfl⟩, ⟨below4 hS.1 hS.2.2.2 _, (hS.2.1.set hS.2.2.1 (by decide) (by decide)), hS.2.2.2, setRow_heap _ _ _ _ _ _ hS.2.2.1⟩, fun _ _ => rfl⟩
    | 8, _ => exact stepV rfl rfl (execAsgB rfl (hv 5 (by omega) _ rfl _ rfl)) ⟨s, ⟨_, rfl, rfl⟩, hS, fun _ _ => rfl⟩
    | k_ + 9, h_ => exact absurd h_ (by simp)
  rintro ⟨nv, bv, cv, x, g5⟩ a X3 h1 h2 h3 h4 hS
  replace hS : Below X1.heap.size X1 X3 ∧ (PtS X3 V.heap.size 0 nv bv cv x 0 0 0 f) ∧ (X1.heap.size ≤ g5) ∧ X3.heap[g5]? = some (.cells (ptC nv bv cv) 49) := hS
  obtain ⟨bX, FPT, Fge5, F5⟩ := hS
  replace t0 := (h3 0 (by decide)).trans t0
  replace t1 := (h3 1 (by decide)).trans t1
  have t5 : a.eval (.tmp 5) = .pointer (some ⟨g5, 0, none⟩) := h4 6 _ rfl _ rfl
  have t6 : a.eval (.tmp 6) = .int .i64 ((3 : Nat) : Int) := h4 8 _ rfl _ rfl
  replace FP := (FP.on bX)
  have ZX3 := bX.size
  replace BW := BW.trans (bX.mono BW.size)
  clear bX
  replace A := (⟨h1, h2.trans A.2⟩ : a.tmps.size = 126 ∧ a.defers = [])
  clear h1 h2 h3 h4
  refine wp_seq ?_
  refine wp_seq ?_
  refine wp_region_sq (σ := Unit) 126 [(0, 20), (1, 21), (2, 22), (3, 23), (4, 24), (5, 25)] (fun j_ s X => match j_ with | 0 => Below X3.heap.size X3 X | 1 => Below X3.heap.size X3 X | 2 => Below X3.heap.size X3 X | 3 => Below X3.heap.size X3 X | 4 => Below X3.heap.size X3 X | 5 => Below X3.heap.size X3 X | _ => Below X3.heap.size X3 X) (fun s => fun i_ => match i_ with | 0 => .int .i64 ch | 1 => .bool false | 2 => .bool false | 3 => .int .i64 ch | 4 => .bool false | 5 => .bool false | _ => undef) () A.1 (by kernel_rfl) (by decide) (by decide) (Below.refl _ _) ?_ ?_
  · intro i_ hi_ s a X hf hv hn hS
    match i_, hi_ with
    | 0, _ => exact stepV rfl rfl (execMvB rfl ((hf 1 (by decide)).trans t1)) ⟨s, ⟨_, rfl, rfl⟩, hS, fun _ _ => rfl⟩
    | 1, _ => exact stepV rfl rfl (execLtIf (p := ch) (q := 1) rfl (hv 0 (by omega) _ rfl _ rfl) (by omega)) ⟨s, ⟨_, rfl, rfl⟩, hS, fun _ _ => rfl⟩
    | 2, _ => exact stepV rfl rfl (execMvB rfl (hv 1 (by omega) _ rfl _ rfl)) ⟨s, ⟨_, rfl, rfl⟩, hS, fun _ _ => rfl⟩
    | 3, _ => exact stepV rfl (wantedOf rfl (yieldedAt rfl rfl (show a.eval (.tmp 22) = .bool false from (hv 2 (by omega) _ rfl _ rfl)))) (execMvB rfl ((hf 1 (by decide)).trans t1)) ⟨s, ⟨_, rfl, rfl⟩, hS, fun _ _ => rfl⟩
    | 4, _ => exact stepV rfl (wantedOf rfl (yieldedAt rfl rfl (show a.eval (.tmp 22) = .bool false from (hv 2 (by omega) _ rfl _ rfl)))) (execGtIf (p := ch) (q := 64) rfl (hv 3 (by omega) _ rfl _ rfl) (by omega)) ⟨s, ⟨_, rfl, rfl⟩, hS, fun _ _ => rfl⟩
    | 5, _ => exact stepV rfl rfl (execPickF rfl (hv 2 (by omega) _ rfl _ rfl) (hv 4 (by omega) _ rfl _ rfl)) ⟨s, ⟨_, rfl, rfl⟩, hS, fun _ _ => rfl⟩
    | k_ + 6, h_ => exact absurd h_ (by simp)
  rintro _ a X4 h1 h2 h3 h4 hS
  replace hS : Below X3.heap.size X3 X4 := hS
  have bX := hS
  clear hS
  replace t0 := (h3 0 (by decide)).trans t0
  replace t1 := (h3 1 (by decide)).trans t1
  replace t5 := (h3 5 (by decide)).trans t5
  replace t6 := (h3 6 (by decide)).trans t6
  have t25 : a.eval (.tmp 25) = .bool false := h4 5 _ rfl _ rfl
  replace FP := (FP.on bX)
  replace FPT := (FPT.on bX)
  replace Fge5 := Fge5
  replace F5 := (on9 F5 bX)
  have ZX4 := bX.size
  replace BW := BW.trans (bX.mono BW.size)
  clear bX
  replace A := (⟨h1, h2.trans A.2⟩ : a.tmps.size = 126 ∧ a.defers = [])
  clear h1 h2 h3 h4
  refine wp_cond_false t25 ?_
  refine wp_skip ?_
  clear t25
  refine wp_seq ?_
  refine wp_seq ?_
  refine wp_region_sq (σ := Unit) 126 [(0, 34), (1, 35), (2, 36)] (fun j_ s X => match j_ with | 0 => Below X4.heap.size X4 X | 1 => Below X4.heap.size X4 X | 2 => Below X4.heap.size X4 X | _ => Below X4.heap.size X4 X) (fun s => fun i_ => match i_ with | 0 => .slice ao len cap | 1 => .int .i64 ((len : Nat) : Int) | 2 => .bool true | _ => undef) () A.1 (by kernel_rfl) (by decide) (by decide) (Below.refl _ _) ?_ ?_
  · intro i_ hi_ s a X hf hv hn hS
    match i_, hi_ with
    | 0, _ => exact stepV rfl rfl (execMvB rfl ((hf 0 (by decide)).trans t0)) ⟨s, ⟨_, rfl, rfl⟩, hS, fun _ _ => rfl⟩
    | 1, _ => exact stepV rfl rfl (execLenV (len := len) rfl (hv 0 (by omega) _ rfl _ rfl) (shp9 (FP.on hS))) ⟨s, ⟨_, rfl, rfl⟩, hS, fun _ _ => rfl⟩
    | 2, _ => exact stepV rfl rfl (execDec (execLtW (p := len) (q := 18) rfl (hv 1 (by omega) _ rfl _ rfl) rfl) (decide_eq_true (by omega))) ⟨s, ⟨_, rfl, rfl⟩, hS, fun _ _ => rfl⟩
    | k_ + 3, h_ => exact absurd h_ (by simp)
  rintro _ a X6 h1 h2 h3 h4 hS
  replace hS : Below X4.heap.size X4 X6 := hS
  have bX := hS
  clear hS
  replace t0 := (h3 0 (by decide)).trans t0
  replace t1 := (h3 1 (by decide)).trans t1
  replace t5 := (h3 5 (by decide)).trans t5
  replace t6 := (h3 6 (by decide)).trans t6
  have t36 : a.eval (.tmp 36) = .bool true := h4 2 _ rfl _ rfl
  replace FP := (FP.on bX)
  replace FPT := (FPT.on bX)
  replace Fge5 := Fge5
  replace F5 := (on9 F5 bX)
  have ZX6 := bX.size
  replace BW := BW.trans (bX.mono BW.size)
  clear bX
  replace A := (⟨h1, h2.trans A.2⟩ : a.tmps.size = 126 ∧ a.defers = [])
  clear h1 h2 h3 h4
  obtain ⟨ca, cc, rfl⟩ := ownQ_shape FPT.own
  refine wp_cond_true t36 ?_
  refine wp_seq ?_
  refine wp_region_sq (σ := Unit) 126 [(0, 37), (1, 38), (2, 39), (3, 40), (4, 41), (5, 42), (6, 43), (7, 44), (8, 45), (9, 46), (10, 47), (11, 48), (12, 49), (13, 50), (14, 4)] (fun j_ s X => match j_ with | 0 => Below X6.heap.size X6 X | 1 => Below X6.heap.size X6 X | 2 => Below X6.heap.size X6 X | 3 => Below X6.heap.size X6 X | 4 => Below X6.heap.size X6 X | 5 => Below X6.heap.size X6 X | 6 => Below X6.heap.size X6 X | 7 => Below X6.heap.size X6 X | 8 => Below X6.heap.size X6 X | 9 => Below X6.heap.size X6 X | 10 => Below X6.heap.size X6 X | 11 => Below X6.heap.size X6 X | 12 => Below X6.heap.size X6 X | 13 => Below X6.heap.size X6 X | 14 => Below X6.heap.size X6 X | _ => Below X6.heap.size X6 X) (fun s => fun i_ => match i_ with | 0 => .int .i64 ((3 : Nat) : Int) | 1 => .bool true | 2 => .bool true | 3 => .pointer (some ⟨g5, 0, none⟩) | 4 => nv | 5 => .int .i64 ((0 : Nat) : Int) | 6 => .bool true | 7 => .bool true | 8 => .bool true | 9 => .pointer (some ⟨g5, 2, none⟩) | 10 => .slice ca 0 cc | 11 => .int .i64 ((0 : Nat) : Int) | 12 => .bool true | 13 => .bool true | 14 => .bool true | _ => undef) () A.1 (by kernel_rfl) (by decide) (by decide) (Below.refl _ _) ?_ ?_
  · intro i_ hi_ s a X hf hv hn hS
    match i_, hi_ with
    | 0, _ => exact stepV rfl rfl (execMvB rfl ((hf 6 (by decide)).trans t6)) ⟨s, ⟨_, rfl, rfl⟩, hS, fun _ _ => rfl⟩
    | 1, _ => exact stepV rfl rfl (execDec (execEqE (p := 3) (q := 3) rfl (hv 0 (by omega) _ rfl _ rfl) rfl) (decide_eq_true (by omega))) ⟨s, ⟨_, rfl, rfl⟩, hS, fun _ _ => rfl⟩
    | 2, _ => exact stepV rfl rfl (execMvB rfl (hv 1 (by omega) _ rfl _ rfl)) ⟨s, ⟨_, rfl, rfl⟩, hS, fun _ _ => rfl⟩
    | 3, _ => exact stepV rfl (wantedOf rfl (yieldedAt rfl rfl (show a.eval (.tmp 39) = .bool true from (hv 2 (by omega) _ rfl _ rfl)))) (execPt0 rfl ((hf 5 (by decide)).trans t5)) ⟨s, ⟨_, rfl, rfl⟩, hS, fun _ _ => rfl⟩
    | 4, _ => exact stepV rfl (wantedOf rfl (yieldedAt rfl rfl (show a.eval (.tmp 39) = .bool true from (hv 2 (by omega) _ rfl _ rfl)))) (execLdL rfl (hv 3 (by omega) _ rfl _ rfl) (ptC_at (on9 F5 hS)).1) ⟨s, ⟨_, rfl, rfl⟩, hS, fun _ _ => rfl⟩
    | 5, _ => exact stepV rfl (wantedOf rfl (yieldedAt rfl rfl (show a.eval (.tmp 39) = .bool true from (hv 2 (by omega) _ rfl _ rfl)))) (execLenV (len := 0) rfl (hv 4 (by omega) _ rfl _ rfl) (ownQ_shape FPT.rowN)) ⟨s, ⟨_, rfl, rfl⟩, hS, fun _ _ => rfl⟩
    | 6, _ => exact stepV rfl (wantedOf rfl (yieldedAt rfl rfl (show a.eval (.tmp 39) = .bool true from (hv 2 (by omega) _ rfl _ rfl)))) (execDec (execEqN (p := 0) (q := 0) rfl (hv 5 (by omega) _ rfl _ rfl) rfl) (decide_eq_true (by omega))) ⟨s, ⟨_, rfl, rfl⟩, hS, fun _ _ => rfl⟩
    | 7, _ => exact stepV rfl rfl (execPickT rfl (hv 2 (by omega) _ rfl _ rfl) (hv 6 (by omega) _ rfl _ rfl)) ⟨s, ⟨_, rfl, rfl⟩, hS, fun _ _ => rfl⟩
    | 8, _ => exact stepV rfl rfl (execMvB rfl (hv 7 (by omega) _ rfl _ rfl)) ⟨s, ⟨_, rfl, rfl⟩, hS, fun _ _ => rfl⟩
    | 9, _ => exact stepV rfl (wantedOf rfl (yieldedAt rfl rfl (show a.eval (.tmp 45) = .bool true from (hv 8 (by omega) _ rfl _ rfl)))) (execPt2 rfl ((hf 5 (by decide)).trans t5)) ⟨s, ⟨_, rfl, rfl⟩, hS, fun _ _ => rfl⟩
    | 10, _ => exact stepV rfl (wantedOf rfl (yieldedAt rfl rfl (show a.eval (.tmp 45) = .bool true from (hv 8 (by omega) _ rfl _ rfl)))) (execLdLL rfl (hv 9 (by omega) _ rfl _ rfl) (ptC_at (on9 F5 hS)).2.2) ⟨s, ⟨_, rfl, rfl⟩, hS, fun _ _ => rfl⟩
    | 11, _ => exact stepV rfl (wantedOf rfl (yieldedAt rfl rfl (show a.eval (.tmp 45) = .bool true from (hv 8 (by omega) _ rfl _ rfl)))) (execLenL (len := 0) rfl (hv 10 (by omega) _ rfl _ rfl)) ⟨s, ⟨_, rfl, rfl⟩, hS, fun _ _ => rfl⟩
    | 12, _ => exact stepV rfl (wantedOf rfl (yieldedAt rfl rfl (show a.eval (.tmp 45) = .bool true from (hv 8 (by omega) _ rfl _ rfl)))) (execDec (execEqN (p := 0) (q := 0) rfl (hv 11 (by omega) _ rfl _ rfl) rfl) (decide_eq_true (by omega))) ⟨s, ⟨_, rfl, rfl⟩, hS, fun _ _ => rfl⟩
    | 13, _ => exact stepV rfl rfl (execPickT rfl (hv 8 (by omega) _ rfl _ rfl) (hv 12 (by omega) _ rfl _ rfl)) ⟨s, ⟨_, rfl, rfl⟩, hS, fun _ _ => rfl⟩
    | 14, _ => exact stepV rfl rfl (execAsgB rfl (hv 13 (by omega) _ rfl _ rfl)) ⟨s, ⟨_, rfl, rfl⟩, hS, fun _ _ => rfl⟩
    | k_ + 15, h_ => exact absurd h_ (by simp)
  rintro _ a X7 h1 h2 h3 h4 hS
  replace hS : Below X6.heap.size X6 X7 := hS
  have bX := hS
  clear hS
  have t4 : a.eval (.tmp 4) = .bool true := h4 14 _ rfl _ rfl
  replace FP := (FP.on bX)
  replace FPT := (FPT.on bX)
  replace Fge5 := Fge5
  replace F5 := (on9 F5 bX)
  have ZX7 := bX.size
  replace BW := BW.trans (bX.mono BW.size)
  clear bX
  replace A := (⟨h1, h2.trans A.2⟩ : a.tmps.size = 126 ∧ a.defers = [])
  clear h1 h2 h3 h4
  clear t0 t1 t5 t6 t36
  refine wp_ret ?_
  refine ret_then ?_
  refine bodyPost_ret (results_tmp rfl _ _ _) A.2 ⟨?_, BW⟩
  show Ending.returned (a.eval (.tmp 4)) = _
  rw [t4]
set_option maxRecDepth 100000 in
set_option maxHeartbeats 4000000 in
theorem parts_ok (f : Nat → Nat) (len n : Nat) (v : Value) (V : World) (hv : SliceN V v len f) (hl : len ≤ 140737488351232) (hn0 : 0 < n) (hn64 : n ≤ 64) (h18 : 18 ≤ len) :
    Calls Try.prog 5 #[v, .int .i64 (n : Int)] V fun e w' => e = .returned (.bool true) ∧ Below V.heap.size V w' := by
  obtain ⟨H, eH⟩ : ∃ H, (len - 18) / 2 = H := ⟨_, rfl⟩
  obtain ⟨q, eq⟩ : ∃ q, (len - 18 - H) / n = q := ⟨_, rfl⟩
  obtain ⟨ao, cap, rfl, hcl, _⟩ := id hv.shape
  have FP := hv
  have hp := hv.bytes
  clear hv
  go_enter Try.func5, Try.ntmps5
  refine wp_seq ?_
  refine wp_region_sqK 126 [(0, 4)] (fun i_ => match i_ with | 0 => .bool false | _ => undef) rfl (by kernel_rfl) (by decide) (by decide) ?_ ?_
  · intro i_ hi_ a hf hv hn
    match i_, hi_ with
    | 0, _ => exact stepV rfl rfl (execAsgB rfl rfl) ⟨⟨_, rfl, rfl⟩, rfl⟩
    | k_ + 1, h_ => exact absurd h_ (by simp)
  intro a h1 h2 h3 h4
  have t0 : a.eval (.tmp 0) = .slice ao len cap := (h3 0 (by decide)).trans rfl
  have t1 : a.eval (.tmp 1) = .int .i64 ((n : Nat) : Int) := (h3 1 (by decide)).trans rfl
  have A : a.tmps.size = 126 ∧ a.defers = [] := ⟨h1, h2⟩
  have BW : Below V.heap.size V V := Below.refl _ _
  clear h1 h2 h3 h4
  refine wp_seq ?_
  refine wp_seq ?_
  refine wp_region_sq (σ := Unit) 126 [(0, 12), (1, 13)] (fun j_ s X => match j_ with | 0 => Below V.heap.size V X | 1 => Below V.heap.size V X | _ => Below V.heap.size V X) (fun s => fun i_ => match i_ with | 0 => .bool true | 1 => .bool false | _ => undef) () A.1 (by kernel_rfl) (by decide) (by decide) (Below.refl _ _) ?_ ?_
  · intro i_ hi_ s a X hf hv hn hS
    match i_, hi_ with
    | 0, _ => exact stepC rfl rfl (execCall0 Try.func7 (by kernel_rfl) (by kernel_rfl) rfl ) (awake9 X) fun e w' hh => ⟨_, hh.1, s, ⟨_, rfl, rfl⟩, (hS).trans ((hh.2).mono (hS).size), fun _ _ => rfl⟩
    | 1, _ => exact stepV rfl rfl (execNot8 rfl (hv 0 (by omega) _ rfl _ rfl)) ⟨s, ⟨_, rfl, rfl⟩, hS, fun _ _ => rfl⟩
    | k_ + 2, h_ => exact absurd h_ (by simp)
  rintro _ a X1 h1 h2 h3 h4 hS
  replace hS : Below V.heap.size V X1 := hS
  have bX := hS
  clear hS
  replace t0 := (h3 0 (by decide)).trans t0
  replace t1 := (h3 1 (by decide)).trans t1
  have t13 : a.eval (.tmp 13) = .bool false := h4 1 _ rfl _ rfl
  replace FP := (FP.on bX)
  have ZX1 := bX.size
  replace BW := BW.trans (bX.mono BW.size)
  clear bX
  replace A := (⟨h1, h2.trans A.2⟩ : a.tmps.size = 126 ∧ a.defers = [])
  clear h1 h2 h3 h4
  refine wp_cond_false t13 ?_
  refine wp_skip ?_
  clear t13
  refine wp_seq ?_
  refine wp_region_sq (σ := Value × Value × Value × (Nat → Value) × Nat) 126 [(0, 15), (1, 16), (2, 17), (3, 14), (4, 18), (5, 19), (6, 5), (8, 6)] (fun j_ s X => match j_ with | 0 => Below X1.heap.size X1 X | 1 => Below X1.heap.size X1 X | 2 => Below X1.heap.size X1 X | 3 => Below X1.heap.size X1 X ∧ (PtS X V.heap.size n s.1 s.2.1 s.2.2.1 s.2.2.2.1 18 H q f) | 4 => Below X1.heap.size X1 X ∧ (PtS X V.heap.size n s.1 s.2.1 s.2.2.1 s.2.2.2.1 18 H q f) | 5 => Below X1.heap.size X1 X ∧ (PtS X V.heap.size n s.1 s.2.1 s.2.2.1 s.2.2.2.1 18 H q f) | 6 => Below X1.heap.size X1 X ∧ (PtS X V.heap.size n s.1 s.2.1 s.2.2.1 s.2.2.2.1 18 H q f) | 7 => Below X1.heap.size X1 X ∧ (PtS X V.heap.size n s.1 s.2.1 s.2.2.1 s.2.2.2.1 18 H q f) ∧ X.heap[s.2.2.2.2]? = some (.cells (ptC (.slice none 0 0) (.slice none 0 0) (.slice none 0 0)) 49) ∧ (X1.heap.size ≤ s.2.2.2.2) | 8 => Below X1.heap.size X1 X ∧ (PtS X V.heap.size n s.1 s.2.1 s.2.2.1 s.2.2.2.1 18 H q f) ∧ (X1.heap.size ≤ s.2.2.2.2) ∧ X.heap[s.2.2.2.2]? = some (.cells (ptC s.1 s.2.1 s.2.2.1) 49) | _ => Below X1.heap.size X1 X ∧ (PtS X V.heap.size n s.1 s.2.1 s.2.2.1 s.2.2.2.1 18 H q f) ∧ (X1.heap.size ≤ s.2.2.2.2) ∧ X.heap[s.2.2.2.2]? = some (.cells (ptC s.1 s.2.1 s.2.2.1) 49)) (fun s => fun i_ => match i_ with | 0 => .slice ao len cap | 1 => .int .i64 ((n : Nat) : Int) | 2 => .tuple #[.agg (ptC s.1 s.2.1 s.2.2.1), .int .i64 ((0 : Nat) : Int)] | 3 => .tuple #[.agg (ptC s.1 s.2.1 s.2.2.1), .int .i64 ((0 : Nat) : Int)] | 4 => .agg (ptC s.1 s.2.1 s.2.2.1) | 5 => .int .i64 ((0 : Nat) : Int) | 6 => .pointer (some ⟨s.2.2.2.2, 0, none⟩) | 7 => undef | 8 => .int .i64 ((0 : Nat) : Int) | _ => undef) (undef, undef, undef, fun _ => undef, 0) A.1 (by kernel_rfl) (by decide) (by decide) (Below.refl _ _) ?_ ?_
  · intro i_ hi_ s a X hf hv hn hS
    match i_, hi_ with
    | 0, _ => exact stepV rfl rfl (execMvB rfl ((hf 0 (by decide)).trans t0)) ⟨s, ⟨_, rfl, rfl⟩, hS, fun _ _ => rfl⟩
    | 1, _ => exact stepV rfl rfl (execMvB rfl ((hf 1 (by decide)).trans t1)) ⟨s, ⟨_, rfl, rfl⟩, hS, fun _ _ => rfl⟩
    | 2, _ =>
      refine stepC rfl rfl (execCall2 Try.func18 (by kernel_rfl) (by kernel_rfl) rfl (hv 0 (by omega) _ rfl _ rfl) (hv 1 (by omega) _ rfl _ rfl)) (split_ok f len n _ X (FP.on hS) hl hn0 hn64 h18 H q eH eq) fun e w' hh => ?_
      obtain ⟨nv_, bv_, cv_, x_, he, hk, hb⟩ := hh
      refine ⟨_, he, (nv_, bv_, cv_, x_, s.2.2.2.2), ⟨_, rfl, rfl⟩, ⟨(hS).trans ((hb).mono (hS).size), hk.base (Nat.le_trans BW.size (hS).size)⟩, fun i hi => ?_⟩
      match i, hi with
      | 0, _ => rfl
      | 1, _ => rfl
      | n_ + 2, h_ => omega
    | 3, _ => exact stepV rfl rfl (execMvB rfl (hv 2 (by omega) _ rfl _ rfl)) ⟨s, ⟨_, rfl, rfl⟩, hS, fun _ _ => rfl⟩
    | 4, _ => exact stepV rfl rfl (execExtT rfl (hv 3 (by omega) _ rfl _ rfl) rfl) ⟨s, ⟨_, rfl, rfl⟩, hS, fun _ _ => rfl⟩
    | 5, _ => exact stepV rfl rfl (execExtT rfl (hv 3 (by omega) _ rfl _ rfl) rfl) ⟨s, ⟨_, rfl, rfl⟩, hS, fun _ _ => rfl⟩
    | 6, _ =>
      refine stepV rfl rfl (execAllPt rfl) ⟨(s.1, s.2.1, s.2.2.1, s.2.2.2.1, X.heap.size), ⟨_, rfl, rfl⟩, ⟨(hS.1).trans (((belNew X _)).mono (hS.1).size), (hS.2.on (belNew X _)), heapNew X _, (hS.1).size⟩, fun i hi => ?_⟩
      match i, hi with
      | 0, _ => rfl
      | 1, _ => rfl
      | 2, _ => rfl
      | 3, _ => rfl
      | 4, _ => rfl
      | 5, _ => rfl
      | n_ + 6, h_ => omega
    | 7, _ => exact stepS rfl rfl (execStPt rfl (hv 6 (by omega) _ rfl _ rfl) (hv 4 (by omega) _ rfl _ rfl) hS.2.2.1 rfl (pts_one hS.2.1)) ⟨s, ⟨_, rfl, rfl⟩, ⟨below4 hS.1 hS.2.2.2 _, (hS.2.1.set hS.2.2.1 (by decide) (by decide)), hS.2.2.2, setRow_heap _ _ _ _ _ _ hS.2.2.1⟩, fun _ _ => rfl⟩
    | 8, _ => exact stepV rfl rfl (execAsgB rfl (hv 5 (by omega) _ rfl _ rfl)) ⟨s, ⟨_, rfl, rfl⟩, hS, fun _ _ => rfl⟩
    | k_ + 9, h_ => exact absurd h_ (by simp)
  rintro ⟨nv, bv, cv, x, g5⟩ a X3 h1 h2 h3 h4 hS
  replace hS : Below X1.heap.size X1 X3 ∧ (PtS X3 V.heap.size n nv bv cv x 18 H q f) ∧ (X1.heap.size ≤ g5) ∧ X3.heap[g5]? = some (.cells (ptC nv bv cv) 49) := hS
  obtain ⟨bX, FPT, Fge5, F5⟩ := hS
  replace t0 := (h3 0 (by decide)).trans t0
  replace t1 := (h3 1 (by decide)).trans t1
  have t5 : a.eval (.tmp 5) = .pointer (some ⟨g5, 0, none⟩) := h4 6 _ rfl _ rfl
  have t6 : a.eval (.tmp 6) = .int .i64 ((0 : Nat) : Int) := h4 8 _ rfl _ rfl
  replace FP := (FP.on bX)
  have ZX3 := bX.size
  replace BW := BW.trans (bX.mono BW.size)
  clear bX
  replace A := (⟨h1, h2.trans A.2⟩ : a.tmps.size = 126 ∧ a.defers = [])
  clear h1 h2 h3 h4
  obtain ⟨cg, cc, rfl, _, _⟩ := ownL_some FPT.own hn0
  refine wp_seq ?_
  refine wp_seq ?_
  refine wp_region_sq (σ := Unit) 126 [(0, 20), (1, 21), (2, 22), (3, 23), (4, 24), (5, 25)] (fun j_ s X => match j_ with | 0 => Below X3.heap.size X3 X | 1 => Below X3.heap.size X3 X | 2 => Below X3.heap.size X3 X | 3 => Below X3.heap.size X3 X | 4 => Below X3.heap.size X3 X | 5 => Below X3.heap.size X3 X | _ => Below X3.heap.size X3 X) (fun s => fun i_ => match i_ with | 0 => .int .i64 ((n : Nat) : Int) | 1 => .bool false | 2 => .bool false | 3 => .int .i64 ((n : Nat) : Int) | 4 => .bool false | 5 => .bool false | _ => undef) () A.1 (by kernel_rfl) (by decide) (by decide) (Below.refl _ _) ?_ ?_
  · intro i_ hi_ s a X hf hv hn hS
    match i_, hi_ with
    | 0, _ => exact stepV rfl rfl (execMvB rfl ((hf 1 (by decide)).trans t1)) ⟨s, ⟨_, rfl, rfl⟩, hS, fun _ _ => rfl⟩
    | 1, _ => exact stepV rfl rfl (execDec (execLtW (p := n) (q := 1) rfl (hv 0 (by omega) _ rfl _ rfl) rfl) (decide_eq_false (by omega))) ⟨s, ⟨_, rfl, rfl⟩, hS, fun _ _ => rfl⟩
    | 2, _ => exact stepV rfl rfl (execMvB rfl (hv 1 (by omega) _ rfl _ rfl)) ⟨s, ⟨_, rfl, rfl⟩, hS, fun _ _ => rfl⟩
    | 3, _ => exact stepV rfl (wantedOf rfl (yieldedAt rfl rfl (show a.eval (.tmp 22) = .bool false from (hv 2 (by omega) _ rfl _ rfl)))) (execMvB rfl ((hf 1 (by decide)).trans t1)) ⟨s, ⟨_, rfl, rfl⟩, hS, fun _ _ => rfl⟩
    | 4, _ => exact stepV rfl (wantedOf rfl (yieldedAt rfl rfl (show a.eval (.tmp 22) = .bool false from (hv 2 (by omega) _ rfl _ rfl)))) (execDec (execGtN (p := n) (q := 64) rfl (hv 3 (by omega) _ rfl _ rfl) rfl) (decide_eq_false (by omega))) ⟨s, ⟨_, rfl, rfl⟩, hS, fun _ _ => rfl⟩
    | 5, _ => exact stepV rfl rfl (execPickF rfl (hv 2 (by omega) _ rfl _ rfl) (hv 4 (by omega) _ rfl _ rfl)) ⟨s, ⟨_, rfl, rfl⟩, hS, fun _ _ => rfl⟩
    | k_ + 6, h_ => exact absurd h_ (by simp)
  rintro _ a X4 h1 h2 h3 h4 hS
  replace hS : Below X3.heap.size X3 X4 := hS
  have bX := hS
  clear hS
  replace t0 := (h3 0 (by decide)).trans t0
  replace t1 := (h3 1 (by decide)).trans t1
  replace t5 := (h3 5 (by decide)).trans t5
  replace t6 := (h3 6 (by decide)).trans t6
  have t25 : a.eval (.tmp 25) = .bool false := h4 5 _ rfl _ rfl
  replace FP := (FP.on bX)
  replace FPT := (FPT.on bX)
  replace Fge5 := Fge5
  replace F5 := (on9 F5 bX)
  have ZX4 := bX.size
  replace BW := BW.trans (bX.mono BW.size)
  clear bX
  replace A := (⟨h1, h2.trans A.2⟩ : a.tmps.size = 126 ∧ a.defers = [])
  clear h1 h2 h3 h4
  refine wp_cond_false t25 ?_
  refine wp_skip ?_
  clear t25
  refine wp_seq ?_
  refine wp_seq ?_
  refine wp_region_sq (σ := Unit) 126 [(0, 34), (1, 35), (2, 36)] (fun j_ s X => match j_ with | 0 => Below X4.heap.size X4 X | 1 => Below X4.heap.size X4 X | 2 => Below X4.heap.size X4 X | _ => Below X4.heap.size X4 X) (fun s => fun i_ => match i_ with | 0 => .slice ao len cap | 1 => .int .i64 ((len : Nat) : Int) | 2 => .bool false | _ => undef) () A.1 (by kernel_rfl) (by decide) (by decide) (Below.refl _ _) ?_ ?_
  · intro i_ hi_ s a X hf hv hn hS
    match i_, hi_ with
    | 0, _ => exact stepV rfl rfl (execMvB rfl ((hf 0 (by decide)).trans t0)) ⟨s, ⟨_, rfl, rfl⟩, hS, fun _ _ => rfl⟩
    | 1, _ => exact stepV rfl rfl (execLenV (len := len) rfl (hv 0 (by omega) _ rfl _ rfl) (shp9 (FP.on hS))) ⟨s, ⟨_, rfl, rfl⟩, hS, fun _ _ => rfl⟩
    | 2, _ => exact stepV rfl rfl (execDec (execLtW (p := len) (q := 18) rfl (hv 1 (by omega) _ rfl _ rfl) rfl) (decide_eq_false (by omega))) ⟨s, ⟨_, rfl, rfl⟩, hS, fun _ _ => rfl⟩
    | k_ + 3, h_ => exact absurd h_ (by simp)
  rintro _ a X6 h1 h2 h3 h4 hS
  replace hS : Below X4.heap.size X4 X6 := hS
  have bX := hS
  clear hS
  replace t0 := (h3 0 (by decide)).trans t0
  replace t1 := (h3 1 (by decide)).trans t1
  replace t5 := (h3 5 (by decide)).trans t5
  replace t6 := (h3 6 (by decide)).trans t6
  have t36 : a.eval (.tmp 36) = .bool false := h4 2 _ rfl _ rfl
  replace FP := (FP.on bX)
  replace FPT := (FPT.on bX)
  replace Fge5 := Fge5
  replace F5 := (on9 F5 bX)
  have ZX6 := bX.size
  replace BW := BW.trans (bX.mono BW.size)
  clear bX
  replace A := (⟨h1, h2.trans A.2⟩ : a.tmps.size = 126 ∧ a.defers = [])
  clear h1 h2 h3 h4
  refine wp_cond_false t36 ?_
  refine wp_skip ?_
  clear t36
  refine wp_seq ?_
  refine wp_region_sq (σ := Unit) 126 [(0, 7)] (fun j_ s X => match j_ with | 0 => Below X6.heap.size X6 X | _ => Below X6.heap.size X6 X) (fun s => fun i_ => match i_ with | 0 => .slice none 0 0 | _ => undef) () A.1 (by kernel_rfl) (by decide) (by decide) (Below.refl _ _) ?_ ?_
  · intro i_ hi_ s a X hf hv hn hS
    match i_, hi_ with
    | 0, _ => exact stepV rfl rfl (execAsgB rfl rfl) ⟨s, ⟨_, rfl, rfl⟩, hS, fun _ _ => rfl⟩
    | k_ + 1, h_ => exact absurd h_ (by simp)
  rintro _ a X8 h1 h2 h3 h4 hS
  replace hS : Below X6.heap.size X6 X8 := hS
  have bX := hS
  clear hS
  replace t0 := (h3 0 (by decide)).trans t0
  replace t1 := (h3 1 (by decide)).trans t1
  replace t5 := (h3 5 (by decide)).trans t5
  replace t6 := (h3 6 (by decide)).trans t6
  have t7 : a.eval (.tmp 7) = .slice none 0 0 := h4 0 _ rfl _ rfl
  replace FP := (FP.on bX)
  replace FPT := (FPT.on bX)
  replace Fge5 := Fge5
  replace F5 := (on9 F5 bX)
  have ZX8 := bX.size
  replace BW := BW.trans (bX.mono BW.size)
  clear bX
  replace A := (⟨h1, h2.trans A.2⟩ : a.tmps.size = 126 ∧ a.defers = [])
  clear h1 h2 h3 h4
  refine wp_seq ?_
  refine wp_seq ?_
  refine wp_region_sq (σ := Value) 126 [(0, 51), (1, 52), (2, 53), (3, 54)] (fun j_ s X => match j_ with | 0 => Below X8.heap.size X8 X | 1 => Below X8.heap.size X8 X | 2 => Below X8.heap.size X8 X ∧ X.ownsRow (X8.heap.size) 27 1 s (2 + n) (lL (ptX nv bv x) (2 + n)) | 3 => Below X8.heap.size X8 X ∧ X.ownsRow (X8.heap.size) 27 1 s (2 + n) (lL (ptX nv bv x) (2 + n)) | _ => Below X8.heap.size X8 X ∧ X.ownsRow (X8.heap.size) 27 1 s (2 + n) (lL (ptX nv bv x) (2 + n))) (fun s => fun i_ => match i_ with | 0 => .agg (ptC nv bv (.slice (some ⟨cg, 0, none⟩) n cc)) | 1 => s | 2 => .int .i64 ((2 + n : Nat) : Int) | 3 => .int .i64 ((0 : Nat) : Int) | _ => undef) undef A.1 (by kernel_rfl) (by decide) (by decide) (Below.refl _ _) ?_ ?_
  · intro i_ hi_ s a X hf hv hn hS
    match i_, hi_ with
    | 0, _ => exact stepV rfl rfl (execLdPt rfl ((hf 5 (by decide)).trans t5) (on9 F5 hS)) ⟨s, ⟨_, rfl, rfl⟩, hS, fun _ _ => rfl⟩
    | 1, _ =>
      refine stepC rfl rfl (execCall1 Try.func21 (by kernel_rfl) (by kernel_rfl) rfl (hv 0 (by omega) _ rfl _ rfl)) (lists_pt (FPT.on hS) (by omega)) fun e w' hh => ?_
      obtain ⟨r_, he, hk, hb⟩ := hh
      refine ⟨_, he, r_, ⟨_, rfl, rfl⟩, ⟨(hS).trans ((hb).mono (hS).size), ownW_base9 hk (hS).size⟩, fun i hi => ?_⟩
      match i, hi with
      | 0, _ => rfl
      | n_ + 1, h_ => omega
    | 2, _ => exact stepV rfl rfl (execLenLs (len := 2 + n) rfl (hv 1 (by omega) _ rfl _ rfl) (ownQ_shape hS.2)) ⟨s, ⟨_, rfl, rfl⟩, hS, fun _ _ => rfl⟩
    | 3, _ => exact stepV rfl rfl (execMvB rfl rfl) ⟨s, ⟨_, rfl, rfl⟩, hS, fun _ _ => rfl⟩
    | k_ + 4, h_ => exact absurd h_ (by simp)
  rintro r52 a X9 h1 h2 h3 h4 hS
  replace hS : Below X8.heap.size X8 X9 ∧ X9.ownsRow (X8.heap.size) 27 1 r52 (2 + n) (lL (ptX nv bv x) (2 + n)) := hS
  obtain ⟨bX, Fr52⟩ := hS
  replace t0 := (h3 0 (by decide)).trans t0
  replace t1 := (h3 1 (by decide)).trans t1
  replace t5 := (h3 5 (by decide)).trans t5
  replace t6 := (h3 6 (by decide)).trans t6
  replace t7 := (h3 7 (by decide)).trans t7
  have t52 : a.eval (.tmp 52) = r52 := h4 1 _ rfl _ rfl
  have t53 : a.eval (.tmp 53) = .int .i64 ((2 + n : Nat) : Int) := h4 2 _ rfl _ rfl
  have t54 : a.eval (.tmp 54) = .int .i64 ((0 : Nat) : Int) := h4 3 _ rfl _ rfl
  replace FP := (FP.on bX)
  replace FPT := (FPT.on bX)
  replace Fge5 := Fge5
  replace F5 := (on9 F5 bX)
  have ZX9 := bX.size
  replace BW := BW.trans (bX.mono BW.size)
  clear bX
  replace A := (⟨h1, h2.trans A.2⟩ : a.tmps.size = 126 ∧ a.defers = [])
  clear h1 h2 h3 h4
  obtain ⟨lg, lc, rfl, _, _⟩ := ownL_some Fr52 (show 0 < 2 + n by omega)
  have BB : Below X9.heap.size X9 X9 := Below.refl _ _
  refine wp_block ?_
  refine wp_loop (fun a W => ∃ (i : Nat) (u : Value), i ≤ 2 + n ∧ ((a.tmps.size = 126 ∧ a.defers = []) ∧ a.eval (.tmp 0) = .slice ao len cap ∧ a.eval (.tmp 1) = .int .i64 ((n : Nat) : Int) ∧ a.eval (.tmp 5) = .pointer (some ⟨g5, 0, none⟩) ∧ a.eval (.tmp 6) = .int .i64 ((0 : Nat) : Int) ∧ a.eval (.tmp 7) = u ∧ a.eval (.tmp 52) = .slice (some ⟨lg, 0, none⟩) (2 + n) lc ∧ a.eval (.tmp 53) = .int .i64 ((2 + n : Nat) : Int) ∧ a.eval (.tmp 54) = .int .i64 ((i : Nat) : Int) ∧ Below X9.heap.size X9 W ∧ W.ownsRow X9.heap.size 5 1 u (offP H q i) (bytesL (offP H q i) f))) (fun a _ => 2 + n - (intOf (a.eval (.tmp 54))).toNat) ⟨0, _, by omega, A, t0, t1, t5, t6, t7, t52, t53, t54, BB, World.ownsRow_nil _ _ _ _⟩ ?_
  clear A t0 t1 t5 t6 t7 t52 t53 t54 BB a
  rintro a XL ⟨i, u, hi, A, t0, t1, t5, t6, t7, t52, t53, t54, BB, FA⟩
  have e54 := t54
  refine wp_seq ?_
  refine wp_region_sq (σ := Unit) 126 [(0, 55)] (fun j_ s X => match j_ with | 0 => Below X9.heap.size X9 X ∧ X.ownsRow (X9.heap.size) 5 1 u (offP H q i) (bytesL (offP H q i) f) | _ => Below X9.heap.size X9 X ∧ X.ownsRow (X9.heap.size) 5 1 u (offP H q i) (bytesL (offP H q i) f)) (fun s => fun i_ => match i_ with | 0 => .bool (decide (i < 2 + n)) | _ => undef) () A.1 (by kernel_rfl) (by decide) (by decide) ⟨BB, FA⟩ ?_ ?_
  · intro i_ hi_ s a X hf hv hn hS
    match i_, hi_ with
    | 0, _ => exact stepV rfl rfl (execLtW (p := i) (q := 2 + n) rfl ((hf 54 (by decide)).trans t54) ((hf 53 (by decide)).trans t53)) ⟨s, ⟨_, rfl, rfl⟩, hS, fun _ _ => rfl⟩
    | k_ + 1, h_ => exact absurd h_ (by simp)
  rintro _ a X10 h1 h2 h3 h4 hS
  clear BB
  clear FA
  replace hS : Below X9.heap.size X9 X10 ∧ X10.ownsRow (X9.heap.size) 5 1 u (offP H q i) (bytesL (offP H q i) f) := hS
  obtain ⟨BB, FA⟩ := hS
  replace t0 := (h3 0 (by decide)).trans t0
  replace t1 := (h3 1 (by decide)).trans t1
  replace t5 := (h3 5 (by decide)).trans t5
  replace t6 := (h3 6 (by decide)).trans t6
  replace t7 := (h3 7 (by decide)).trans t7
  replace t52 := (h3 52 (by decide)).trans t52
  replace t53 := (h3 53 (by decide)).trans t53
  replace t54 := (h3 54 (by decide)).trans t54
  have t55 : a.eval (.tmp 55) = .bool (decide (i < 2 + n)) := h4 0 _ rfl _ rfl
  replace A := (⟨h1, h2.trans A.2⟩ : a.tmps.size = 126 ∧ a.defers = [])
  clear h1 h2 h3 h4
  refine wp_seq ?_
  by_cases hlt : i < 2 + n
  · rw [decide_eq_true hlt] at t55
    refine wp_cond_true t55 ?_
    refine wp_skip ?_
    clear t55
    refine wp_seq ?_
    refine wp_block ?_
    refine wp_seq ?_
    refine wp_region_sq (σ := Unit) 126 [(0, 56), (1, 57), (2, 9)] (fun j_ s X => match j_ with | 0 => Below X9.heap.size X9 X ∧ X.ownsRow (X9.heap.size) 5 1 u (offP H q i) (bytesL (offP H q i) f) | 1 => Below X9.heap.size X9 X ∧ X.ownsRow (X9.heap.size) 5 1 u (offP H q i) (bytesL (offP H q i) f) | 2 => Below X9.heap.size X9 X ∧ X.ownsRow (X9.heap.size) 5 1 u (offP H q i) (bytesL (offP H q i) f) | _ => Below X9.heap.size X9 X ∧ X.ownsRow (X9.heap.size) 5 1 u (offP H q i) (bytesL (offP H q i) f)) (fun s => fun i_ => match i_ with | 0 => .pointer (some ⟨lg, 0 + i, none⟩) | 1 => (ptX nv bv x i) | 2 => (ptX nv bv x i) | _ => undef) () A.1 (by kernel_rfl) (by decide) (by decide) ⟨BB, FA⟩ ?_ ?_
    · intro i_ hi_ s a X hf hv hn hS
      match i_, hi_ with
      | 0, _ => exact stepV rfl rfl (Cf.execIdxL (k := i) rfl ((hf 52 (by decide)).trans t52) ((hf 54 (by decide)).trans t54) (by omega)) ⟨s, ⟨_, rfl, rfl⟩, hS, fun _ _ => rfl⟩
      | 1, _ => exact stepV rfl rfl (execLdL rfl (hv 0 (by omega) _ rfl _ rfl) (ownL_cell (ownsLL_below Fr52 hS.1) hlt)) ⟨s, ⟨_, rfl, rfl⟩, hS, fun _ _ => rfl⟩
      | 2, _ => exact stepV rfl rfl (execAsgB rfl (hv 1 (by omega) _ rfl _ rfl)) ⟨s, ⟨_, rfl, rfl⟩, hS, fun _ _ => rfl⟩
      | k_ + 3, h_ => exact absurd h_ (by simp)
    rintro _ a X11 h1 h2 h3 h4 hS
    clear BB
    clear FA
    replace hS : Below X9.heap.size X9 X11 ∧ X11.ownsRow (X9.heap.size) 5 1 u (offP H q i) (bytesL (offP H q i) f) := hS
    obtain ⟨BB, FA⟩ := hS
    replace t0 := (h3 0 (by decide)).trans t0
    replace t1 := (h3 1 (by decide)).trans t1
    replace t5 := (h3 5 (by decide)).trans t5
    replace t6 := (h3 6 (by decide)).trans t6
    replace t7 := (h3 7 (by decide)).trans t7
    replace t52 := (h3 52 (by decide)).trans t52
    replace t53 := (h3 53 (by decide)).trans t53
    replace t54 := (h3 54 (by decide)).trans t54
    have t9 : a.eval (.tmp 9) = (ptX nv bv x i) := h4 2 _ rfl _ rfl
    replace A := (⟨h1, h2.trans A.2⟩ : a.tmps.size = 126 ∧ a.defers = [])
    clear h1 h2 h3 h4
    have o1 := (offP_le len n H q (i + 1) hn0 h18 eH eq (by omega)).1
    rw [offP_succ] at o1
    refine wp_region_sq (σ := Value) 126 [(0, 58), (1, 59), (2, 60), (3, 7)] (fun j_ s X => match j_ with | 0 => Below X9.heap.size X9 X ∧ X.ownsRow (X9.heap.size) 5 1 u (offP H q i) (bytesL (offP H q i) f) | 1 => Below X9.heap.size X9 X ∧ X.ownsRow (X9.heap.size) 5 1 u (offP H q i) (bytesL (offP H q i) f) | 2 => Below X9.heap.size X9 X ∧ X.ownsRow (X9.heap.size) 5 1 u (offP H q i) (bytesL (offP H q i) f) | 3 => Below X9.heap.size X9 X ∧ X.ownsRow (X9.heap.size) 5 1 s (offP H q (i + 1)) (bytesL (offP H q (i + 1)) f) | _ => Below X9.heap.size X9 X ∧ X.ownsRow (X9.heap.size) 5 1 s (offP H q (i + 1)) (bytesL (offP H q (i + 1)) f)) (fun s => fun i_ => match i_ with | 0 => u | 1 => (ptX nv bv x i) | 2 => s | 3 => s | _ => undef) undef A.1 (by kernel_rfl) (by decide) (by decide) ⟨BB, FA⟩ ?_ ?_
    · intro i_ hi_ s a X hf hv hn hS
      match i_, hi_ with
      | 0, _ => exact stepV rfl rfl (execMvB rfl ((hn 3 (by omega) _ rfl _ rfl).trans t7)) ⟨s, ⟨_, rfl, rfl⟩, hS, fun _ _ => rfl⟩
      | 1, _ => exact stepV rfl rfl (execMvB rfl ((hf 9 (by decide)).trans t9)) ⟨s, ⟨_, rfl, rfl⟩, hS, fun _ _ => rfl⟩
      | 2, _ =>
        have hrow := (FPT.on hS.1).fam.rows i (by omega)
        have hsl : SliceN X (ptX nv bv x i) (ptN 18 H q i) (fun j => f (offP H q i + j)) := own_sl (by rw [bytesL_congr (f := ptF f 18 H q i) (g := fun j => f (offP H q i + j)) (fun j _ => ptF_off f H q i j)] at hrow; exact hrow) (fun j hj => hp _ (by omega))
        refine stepAppN rfl rfl rfl (hv 0 (by omega) _ rfl _ rfl) (hv 1 (by omega) _ rfl _ rfl) hS.2 hsl (own_nil9 hrow) (by omega) (hS.1).size fun v' W' own' gr => ⟨v', ⟨_, rfl, rfl⟩, ⟨(hS.1).grown gr (hS.1).size (fun k hk => (hS.2.lt k hk).1), by rw [offP_succ]; exact own'⟩, fun i hi => ?_⟩
        match i, hi with
        | 0, _ => rfl
        | 1, _ => rfl
        | n_ + 2, h_ => omega
      | 3, _ => exact stepV rfl rfl (execAsgB rfl (hv 2 (by omega) _ rfl _ rfl)) ⟨s, ⟨_, rfl, rfl⟩, hS, fun _ _ => rfl⟩
      | k_ + 4, h_ => exact absurd h_ (by simp)
    rintro v60 a X12 h1 h2 h3 h4 hS
    clear BB
    clear FA
    replace hS : Below X9.heap.size X9 X12 ∧ X12.ownsRow (X9.heap.size) 5 1 v60 (offP H q (i + 1)) (bytesL (offP H q (i + 1)) f) := hS
    obtain ⟨BB, FB⟩ := hS
    replace t0 := (h3 0 (by decide)).trans t0
    replace t1 := (h3 1 (by decide)).trans t1
    replace t5 := (h3 5 (by decide)).trans t5
    replace t6 := (h3 6 (by decide)).trans t6
    replace t7 : a.eval (.tmp 7) = v60 := h4 3 _ rfl _ rfl
    replace t52 := (h3 52 (by decide)).trans t52
    replace t53 := (h3 53 (by decide)).trans t53
    replace t54 := (h3 54 (by decide)).trans t54
    replace A := (⟨h1, h2.trans A.2⟩ : a.tmps.size = 126 ∧ a.defers = [])
    clear h1 h2 h3 h4
    clear t9
    refine wp_region_sq (σ := Unit) 126 [(0, 61), (1, 54)] (fun j_ s X => match j_ with | 0 => Below X9.heap.size X9 X ∧ X.ownsRow (X9.heap.size) 5 1 v60 (offP H q (i + 1)) (bytesL (offP H q (i + 1)) f) | 1 => Below X9.heap.size X9 X ∧ X.ownsRow (X9.heap.size) 5 1 v60 (offP H q (i + 1)) (bytesL (offP H q (i + 1)) f) | _ => Below X9.heap.size X9 X ∧ X.ownsRow (X9.heap.size) 5 1 v60 (offP H q (i + 1)) (bytesL (offP H q (i + 1)) f)) (fun s => fun i_ => match i_ with | 0 => .int .i64 ((i + 1 : Nat) : Int) | 1 => .int .i64 ((i + 1 : Nat) : Int) | _ => undef) () A.1 (by kernel_rfl) (by decide) (by decide) ⟨BB, FB⟩ ?_ ?_
    · intro i_ hi_ s a X hf hv hn hS
      match i_, hi_ with
      | 0, _ => exact stepV rfl rfl (execAd8 (p := i) (q := 1) rfl ((hn 1 (by omega) _ rfl _ rfl).trans t54) rfl (by omega)) ⟨s, ⟨_, rfl, rfl⟩, hS, fun _ _ => rfl⟩
      | 1, _ => exact stepV rfl rfl (execMvB rfl (hv 0 (by omega) _ rfl _ rfl)) ⟨s, ⟨_, rfl, rfl⟩, hS, fun _ _ => rfl⟩
      | k_ + 2, h_ => exact absurd h_ (by simp)
    rintro _ a X13 h1 h2 h3 h4 hS
    clear BB
    clear FB
    replace hS : Below X9.heap.size X9 X13 ∧ X13.ownsRow (X9.heap.size) 5 1 v60 (offP H q (i + 1)) (bytesL (offP H q (i + 1)) f) := hS
    obtain ⟨BB, FB⟩ := hS
    replace t0 := (h3 0 (by decide)).trans t0
    replace t1 := (h3 1 (by decide)).trans t1
    replace t5 := (h3 5 (by decide)).trans t5
    replace t6 := (h3 6 (by decide)).trans t6
    replace t7 := (h3 7 (by decide)).trans t7
    replace t52 := (h3 52 (by decide)).trans t52
    replace t53 := (h3 53 (by decide)).trans t53
    replace t54 : a.eval (.tmp 54) = .int .i64 ((i + 1 : Nat) : Int) := h4 1 _ rfl _ rfl
    replace A := (⟨h1, h2.trans A.2⟩ : a.tmps.size = 126 ∧ a.defers = [])
    clear h1 h2 h3 h4
    exact ⟨⟨i + 1, _, hlt, A, t0, t1, t5, t6, t7, t52, t53, t54, BB, FB⟩, by show 2 + n - (intOf (a.eval (.tmp 54))).toNat < 2 + n - (intOf (Act.eval _ (.tmp 54))).toNat; rw [t54, e54]; show 2 + n - (i + 1) < 2 + n - i; omega⟩
  · rw [decide_eq_false hlt] at t55
    refine wp_cond_false t55 ?_
    refine wp_exit ?_
    first | refine exit_in ?_ | refine exit_then (exit_in ?_) | refine exit_then (exit_then (exit_in ?_))
    clear t55
    have hin : i = 2 + n := by omega
    rw [hin] at FA
    clear t53 t54 e54 t52
    obtain ⟨T, eT⟩ : ∃ T, offP H q (2 + n) = T := ⟨_, rfl⟩
    have o2 := offP_le len n H q (2 + n) hn0 h18 eH eq (Nat.le_refl _)
    rw [eT] at FA o2
    have o3 := o2.2 rfl
    have o4 := o2.1
    replace FP := (FP.on BB)
    replace FPT := (FPT.on BB)
    replace Fge5 := Fge5
    replace F5 := (on9 F5 BB)
    replace Fr52 := (ownsLL_below Fr52 BB)
    replace BW := BW.trans (BB.mono BW.size)
    clear BB
    obtain ⟨pz, epz⟩ : ∃ pz, sliced ao 0 T cap 1 = pz := ⟨_, rfl⟩
    have FZ : SliceN X10 pz T f := by
      have := FP.sub 0 T (by omega) (by omega)
      rw [epz] at this
      exact sliceN_cg this fun j _ => by rw [Nat.zero_add]
    have FU := own_sl FA (fun j hj => hp j (by omega))
    refine wp_seq ?_
    refine wp_seq ?_
    refine wp_region_sq (σ := Unit) 126 [(0, 62), (1, 63), (2, 64), (3, 65), (4, 66), (5, 67), (6, 68), (7, 69), (8, 70), (9, 71), (10, 72), (11, 73), (12, 74), (13, 75), (14, 76), (15, 77), (16, 78), (17, 79), (18, 80), (19, 81), (20, 82), (21, 83), (22, 84), (23, 85), (24, 86), (25, 87), (26, 88), (27, 89), (28, 90), (29, 91), (30, 92), (31, 93), (32, 94), (33, 95)] (fun j_ s X => match j_ with | 0 => Below X10.heap.size X10 X | 1 => Below X10.heap.size X10 X | 2 => Below X10.heap.size X10 X | 3 => Below X10.heap.size X10 X | 4 => Below X10.heap.size X10 X | 5 => Below X10.heap.size X10 X | 6 => Below X10.heap.size X10 X | 7 => Below X10.heap.size X10 X | 8 => Below X10.heap.size X10 X | 9 => Below X10.heap.size X10 X | 10 => Below X10.heap.size X10 X | 11 => Below X10.heap.size X10 X | 12 => Below X10.heap.size X10 X | 13 => Below X10.heap.size X10 X | 14 => Below X10.heap.size X10 X | 15 => Below X10.heap.size X10 X | 16 => Below X10.heap.size X10 X | 17 => Below X10.heap.size X10 X | 18 => Below X10.heap.size X10 X | 19 => Below X10.heap.size X10 X | 20 => Below X10.heap.size X10 X | 21 => Below X10.heap.size X10 X | 22 => Below X10.heap.size X10 X | 23 => Below X10.heap.size X10 X | 24 => Below X10.heap.size X10 X | 25 => Below X10.heap.size X10 X | 26 => Below X10.heap.size X10 X | 27 => Below X10.heap.size X10 X | 28 => Below X10.heap.size X10 X | 29 => Below X10.heap.size X10 X | 30 => Below X10.heap.size X10 X | 31 => Below X10.heap.size X10 X | 32 => Below X10.heap.size X10 X | 33 => Below X10.heap.size X10 X | _ => Below X10.heap.size X10 X) (fun s => fun i_ => match i_ with | 0 => .int .i64 ((0 : Nat) : Int) | 1 => .bool false | 2 => .bool false | 3 => .pointer (some ⟨g5, 2, none⟩) | 4 => .slice (some ⟨cg, 0, none⟩) n cc | 5 => .int .i64 ((n : Nat) : Int) | 6 => .int .i64 ((n : Nat) : Int) | 7 => .bool false | 8 => .bool false | 9 => .bool false | 10 => u | 11 => .int .i64 ((T : Nat) : Int) | 12 => .slice ao len cap | 13 => .int .i64 ((len : Nat) : Int) | 14 => .bool false | 15 => .bool false | 16 => .bool false | 17 => u | 18 => .slice ao len cap | 19 => u | 20 => .int .i64 ((T : Nat) : Int) | 21 => pz | 22 => .bool true | 23 => .bool false | 24 => .bool false | 25 => .bool false | 26 => .slice ao len cap | 27 => .int .i64 ((len : Nat) : Int) | 28 => u | 29 => .int .i64 ((T : Nat) : Int) | 30 => .int .i64 ((len - T : Nat) : Int) | 31 => .int .i64 ((n : Nat) : Int) | 32 => .bool false | 33 => .bool false | _ => undef) () A.1 (by kernel_rfl) (by decide) (by decide) (Below.refl _ _) ?_ ?_
    · intro i_ hi_ s a X hf hv hn hS
      match i_, hi_ with
      | 0, _ => exact stepV rfl rfl (execMvB rfl ((hf 6 (by decide)).trans t6)) ⟨s, ⟨_, rfl, rfl⟩, hS, fun _ _ => rfl⟩
      | 1, _ => exact stepV rfl rfl (execDec (execNeE (p := 0) (q := 0) rfl (hv 0 (by omega) _ rfl _ rfl) rfl) (decide_eq_false (by omega))) ⟨s, ⟨_, rfl, rfl⟩, hS, fun _ _ => rfl⟩
      | 2, _ => exact stepV rfl rfl (execMvB rfl (hv 1 (by omega) _ rfl _ rfl)) ⟨s, ⟨_, rfl, rfl⟩, hS, fun _ _ => rfl⟩
      | 3, _ => exact stepV rfl (wantedOf rfl (yieldedAt rfl rfl (show a.eval (.tmp 64) = .bool false from (hv 2 (by omega) _ rfl _ rfl)))) (execPt2 rfl ((hf 5 (by decide)).trans t5)) ⟨s, ⟨_, rfl, rfl⟩, hS, fun _ _ => rfl⟩
      | 4, _ => exact stepV rfl (wantedOf rfl (yieldedAt rfl rfl (show a.eval (.tmp 64) = .bool false from (hv 2 (by omega) _ rfl _ rfl)))) (execLdLL rfl (hv 3 (by omega) _ rfl _ rfl) (ptC_at (on9 F5 hS)).2.2) ⟨s, ⟨_, rfl, rfl⟩, hS, fun _ _ => rfl⟩
      | 5, _ => exact stepV rfl (wantedOf rfl (yieldedAt rfl rfl (show a.eval (.tmp 64) = .bool false from (hv 2 (by omega) _ rfl _ rfl)))) (execLenL (len := n) rfl (hv 4 (by omega) _ rfl _ rfl)) ⟨s, ⟨_, rfl, rfl⟩, hS, fun _ _ => rfl⟩
      | 6, _ => exact stepV rfl (wantedOf rfl (yieldedAt rfl rfl (show a.eval (.tmp 64) = .bool false from (hv 2 (by omega) _ rfl _ rfl)))) (execMvB rfl ((hf 1 (by decide)).trans t1)) ⟨s, ⟨_, rfl, rfl⟩, hS, fun _ _ => rfl⟩
      | 7, _ => exact stepV rfl (wantedOf rfl (yieldedAt rfl rfl (show a.eval (.tmp 64) = .bool false from (hv 2 (by omega) _ rfl _ rfl)))) (execDec (execNeN (p := n) (q := n) rfl (hv 5 (by omega) _ rfl _ rfl) (hv 6 (by omega) _ rfl _ rfl)) (decide_eq_false (by omega))) ⟨s, ⟨_, rfl, rfl⟩, hS, fun _ _ => rfl⟩
      | 8, _ => exact stepV rfl rfl (execPickF rfl (hv 2 (by omega) _ rfl _ rfl) (hv 7 (by omega) _ rfl _ rfl)) ⟨s, ⟨_, rfl, rfl⟩, hS, fun _ _ => rfl⟩
      | 9, _ => exact stepV rfl rfl (execMvB rfl (hv 8 (by omega) _ rfl _ rfl)) ⟨s, ⟨_, rfl, rfl⟩, hS, fun _ _ => rfl⟩
      | 10, _ => exact stepV rfl (wantedOf rfl (yieldedAt rfl rfl (show a.eval (.tmp 71) = .bool false from (hv 9 (by omega) _ rfl _ rfl)))) (execMvB rfl ((hf 7 (by decide)).trans t7)) ⟨s, ⟨_, rfl, rfl⟩, hS, fun _ _ => rfl⟩
      | 11, _ => exact stepV rfl (wantedOf rfl (yieldedAt rfl rfl (show a.eval (.tmp 71) = .bool false from (hv 9 (by omega) _ rfl _ rfl)))) (execLenV (len := T) rfl (hv 10 (by omega) _ rfl _ rfl) (ownQ_shape (ownsRow_below FA hS))) ⟨s, ⟨_, rfl, rfl⟩, hS, fun _ _ => rfl⟩
      | 12, _ => exact stepV rfl (wantedOf rfl (yieldedAt rfl rfl (show a.eval (.tmp 71) = .bool false from (hv 9 (by omega) _ rfl _ rfl)))) (execMvB rfl ((hf 0 (by decide)).trans t0)) ⟨s, ⟨_, rfl, rfl⟩, hS, fun _ _ => rfl⟩
      | 13, _ => exact stepV rfl (wantedOf rfl (yieldedAt rfl rfl (show a.eval (.tmp 71) = .bool false from (hv 9 (by omega) _ rfl _ rfl)))) (execLenV (len := len) rfl (hv 12 (by omega) _ rfl _ rfl) (shp9 (FP.on hS))) ⟨s, ⟨_, rfl, rfl⟩, hS, fun _ _ => rfl⟩
      | 14, _ => exact stepV rfl (wantedOf rfl (yieldedAt rfl rfl (show a.eval (.tmp 71) = .bool false from (hv 9 (by omega) _ rfl _ rfl)))) (execDec (execGtN (p := T) (q := len) rfl (hv 11 (by omega) _ rfl _ rfl) (hv 13 (by omega) _ rfl _ rfl)) (decide_eq_false (by omega))) ⟨s, ⟨_, rfl, rfl⟩, hS, fun _ _ => rfl⟩
      | 15, _ => exact stepV rfl rfl (execPickF rfl (hv 9 (by omega) _ rfl _ rfl) (hv 14 (by omega) _ rfl _ rfl)) ⟨s, ⟨_, rfl, rfl⟩, hS, fun _ _ => rfl⟩
      | 16, _ => exact stepV rfl rfl (execMvB rfl (hv 15 (by omega) _ rfl _ rfl)) ⟨s, ⟨_, rfl, rfl⟩, hS, fun _ _ => rfl⟩
      | 17, _ => exact stepV rfl (wantedOf rfl (yieldedAt rfl rfl (show a.eval (.tmp 78) = .bool false from (hv 16 (by omega) _ rfl _ rfl)))) (execMvB rfl ((hf 7 (by decide)).trans t7)) ⟨s, ⟨_, rfl, rfl⟩, hS, fun _ _ => rfl⟩
      | 18, _ => exact stepV rfl (wantedOf rfl (yieldedAt rfl rfl (show a.eval (.tmp 78) = .bool false from (hv 16 (by omega) _ rfl _ rfl)))) (execMvB rfl ((hf 0 (by decide)).trans t0)) ⟨s, ⟨_, rfl, rfl⟩, hS, fun _ _ => rfl⟩
      | 19, _ => exact stepV rfl (wantedOf rfl (yieldedAt rfl rfl (show a.eval (.tmp 78) = .bool false from (hv 16 (by omega) _ rfl _ rfl)))) (execMvB rfl ((hf 7 (by decide)).trans t7)) ⟨s, ⟨_, rfl, rfl⟩, hS, fun _ _ => rfl⟩
      | 20, _ => exact stepV rfl (wantedOf rfl (yieldedAt rfl rfl (show a.eval (.tmp 78) = .bool false from (hv 16 (by omega) _ rfl _ rfl)))) (execLenV (len := T) rfl (hv 19 (by omega) _ rfl _ rfl) (ownQ_shape (ownsRow_below FA hS))) ⟨s, ⟨_, rfl, rfl⟩, hS, fun _ _ => rfl⟩
      | 21, _ => exact stepV rfl (wantedOf rfl (yieldedAt rfl rfl (show a.eval (.tmp 78) = .bool false from (hv 16 (by omega) _ rfl _ rfl)))) (epz ▸ By8.execSlH rfl (hv 18 (by omega) _ rfl _ rfl) (hv 20 (by omega) _ rfl _ rfl) (By8.slice_h ao len cap T (by omega) X)) ⟨s, ⟨_, rfl, rfl⟩, hS, fun _ _ => rfl⟩
      | 22, _ => exact stepC rfl (wantedOf rfl (yieldedAt rfl rfl (show a.eval (.tmp 78) = .bool false from (hv 16 (by omega) _ rfl _ rfl)))) (execCall2 Try.func10 (by kernel_rfl) (by kernel_rfl) rfl (hv 17 (by omega) _ rfl _ rfl) (hv 21 (by omega) _ rfl _ rfl)) (same_true _ _ (T) _ _ X (FU.on hS) (FZ.on hS) (by intro j hj; rfl)) fun e w' hh => ⟨_, hh.1, s, ⟨_, rfl, rfl⟩, by rw [hh.2]; exact hS, fun _ _ => rfl⟩
      | 23, _ => exact stepV rfl (wantedOf rfl (yieldedAt rfl rfl (show a.eval (.tmp 78) = .bool false from (hv 16 (by omega) _ rfl _ rfl)))) (execNot8 rfl (hv 22 (by omega) _ rfl _ rfl)) ⟨s, ⟨_, rfl, rfl⟩, hS, fun _ _ => rfl⟩
      | 24, _ => exact stepV rfl rfl (execPickF rfl (hv 16 (by omega) _ rfl _ rfl) (hv 23 (by omega) _ rfl _ rfl)) ⟨s, ⟨_, rfl, rfl⟩, hS, fun _ _ => rfl⟩
      | 25, _ => exact stepV rfl rfl (execMvB rfl (hv 24 (by omega) _ rfl _ rfl)) ⟨s, ⟨_, rfl, rfl⟩, hS, fun _ _ => rfl⟩
      | 26, _ => exact stepV rfl (wantedOf rfl (yieldedAt rfl rfl (show a.eval (.tmp 87) = .bool false from (hv 25 (by omega) _ rfl _ rfl)))) (execMvB rfl ((hf 0 (by decide)).trans t0)) ⟨s, ⟨_, rfl, rfl⟩, hS, fun _ _ => rfl⟩
      | 27, _ => exact stepV rfl (wantedOf rfl (yieldedAt rfl rfl (show a.eval (.tmp 87) = .bool false from (hv 25 (by omega) _ rfl _ rfl)))) (execLenV (len := len) rfl (hv 26 (by omega) _ rfl _ rfl) (shp9 (FP.on hS))) ⟨s, ⟨_, rfl, rfl⟩, hS, fun _ _ => rfl⟩
      | 28, _ => exact stepV rfl (wantedOf rfl (yieldedAt rfl rfl (show a.eval (.tmp 87) = .bool false from (hv 25 (by omega) _ rfl _ rfl)))) (execMvB rfl ((hf 7 (by decide)).trans t7)) ⟨s, ⟨_, rfl, rfl⟩, hS, fun _ _ => rfl⟩
      | 29, _ => exact stepV rfl (wantedOf rfl (yieldedAt rfl rfl (show a.eval (.tmp 87) = .bool false from (hv 25 (by omega) _ rfl _ rfl)))) (execLenV (len := T) rfl (hv 28 (by omega) _ rfl _ rfl) (ownQ_shape (ownsRow_below FA hS))) ⟨s, ⟨_, rfl, rfl⟩, hS, fun _ _ => rfl⟩
      | 30, _ => exact stepV rfl (wantedOf rfl (yieldedAt rfl rfl (show a.eval (.tmp 87) = .bool false from (hv 25 (by omega) _ rfl _ rfl)))) (By8.execSubI (p := len) (q := T) rfl (hv 27 (by omega) _ rfl _ rfl) (hv 29 (by omega) _ rfl _ rfl) (by omega) (by omega)) ⟨s, ⟨_, rfl, rfl⟩, hS, fun _ _ => rfl⟩
      | 31, _ => exact stepV rfl (wantedOf rfl (yieldedAt rfl rfl (show a.eval (.tmp 87) = .bool false from (hv 25 (by omega) _ rfl _ rfl)))) (execMvB rfl ((hf 1 (by decide)).trans t1)) ⟨s, ⟨_, rfl, rfl⟩, hS, fun _ _ => rfl⟩
      | 32, _ => exact stepV rfl (wantedOf rfl (yieldedAt rfl rfl (show a.eval (.tmp 87) = .bool false from (hv 25 (by omega) _ rfl _ rfl)))) (execDec (execGe8 (p := len - T) (q := n) rfl (hv 30 (by omega) _ rfl _ rfl) (hv 31 (by omega) _ rfl _ rfl)) (decide_eq_false (by omega))) ⟨s, ⟨_, rfl, rfl⟩, hS, fun _ _ => rfl⟩
      | 33, _ => exact stepV rfl rfl (execPickF rfl (hv 25 (by omega) _ rfl _ rfl) (hv 32 (by omega) _ rfl _ rfl)) ⟨s, ⟨_, rfl, rfl⟩, hS, fun _ _ => rfl⟩
      | k_ + 34, h_ => exact absurd h_ (by simp)
    rintro _ a X14 h1 h2 h3 h4 hS
    replace hS : Below X10.heap.size X10 X14 := hS
    have bX := hS
    clear hS
    replace t0 := (h3 0 (by decide)).trans t0
    replace t1 := (h3 1 (by decide)).trans t1
    replace t5 := (h3 5 (by decide)).trans t5
    have t95 : a.eval (.tmp 95) = .bool false := h4 33 _ rfl _ rfl
    replace FP := (FP.on bX)
    replace FPT := (FPT.on bX)
    replace Fge5 := Fge5
    replace F5 := (on9 F5 bX)
    replace Fr52 := (ownsLL_below Fr52 bX)
    replace FA := (ownsRow_below FA bX)
    replace FZ := (FZ.on bX)
    replace FU := (FU.on bX)
    have ZX14 := bX.size
    replace BW := BW.trans (bX.mono BW.size)
    clear bX
    replace A := (⟨h1, h2.trans A.2⟩ : a.tmps.size = 126 ∧ a.defers = [])
    clear h1 h2 h3 h4
    clear t6 t7
    refine wp_cond_false t95 ?_
    refine wp_skip ?_
    clear t95
    refine wp_seq ?_
    refine wp_seq ?_
    refine wp_region_sq (σ := Unit) 126 [(0, 96), (1, 97), (2, 98), (3, 99)] (fun j_ s X => match j_ with | 0 => Below X14.heap.size X14 X | 1 => Below X14.heap.size X14 X | 2 => Below X14.heap.size X14 X | 3 => Below X14.heap.size X14 X | _ => Below X14.heap.size X14 X) (fun s => fun i_ => match i_ with | 0 => .pointer (some ⟨g5, 2, none⟩) | 1 => .slice (some ⟨cg, 0, none⟩) n cc | 2 => .int .i64 ((n : Nat) : Int) | 3 => .int .i64 ((0 : Nat) : Int) | _ => undef) () A.1 (by kernel_rfl) (by decide) (by decide) (Below.refl _ _) ?_ ?_
    · intro i_ hi_ s a X hf hv hn hS
      match i_, hi_ with
      | 0, _ => exact stepV rfl rfl (execPt2 rfl ((hf 5 (by decide)).trans t5)) ⟨s, ⟨_, rfl, rfl⟩, hS, fun _ _ => rfl⟩
      | 1, _ => exact stepV rfl rfl (execLdLL rfl (hv 0 (by omega) _ rfl _ rfl) (ptC_at (on9 F5 hS)).2.2) ⟨s, ⟨_, rfl, rfl⟩, hS, fun _ _ => rfl⟩
      | 2, _ => exact stepV rfl rfl (execLenL (len := n) rfl (hv 1 (by omega) _ rfl _ rfl)) ⟨s, ⟨_, rfl, rfl⟩, hS, fun _ _ => rfl⟩
      | 3, _ => exact stepV rfl rfl (execMvB rfl rfl) ⟨s, ⟨_, rfl, rfl⟩, hS, fun _ _ => rfl⟩
      | k_ + 4, h_ => exact absurd h_ (by simp)
    rintro _ a X16 h1 h2 h3 h4 hS
    replace hS : Below X14.heap.size X14 X16 := hS
    have bX := hS
    clear hS
    replace t0 := (h3 0 (by decide)).trans t0
    replace t1 := (h3 1 (by decide)).trans t1
    replace t5 := (h3 5 (by decide)).trans t5
    have t97 : a.eval (.tmp 97) = .slice (some ⟨cg, 0, none⟩) n cc := h4 1 _ rfl _ rfl
    have t98 : a.eval (.tmp 98) = .int .i64 ((n : Nat) : Int) := h4 2 _ rfl _ rfl
    have t99 : a.eval (.tmp 99) = .int .i64 ((0 : Nat) : Int) := h4 3 _ rfl _ rfl
    replace FP := (FP.on bX)
    replace FPT := (FPT.on bX)
    replace Fge5 := Fge5
    replace F5 := (on9 F5 bX)
    replace Fr52 := (ownsLL_below Fr52 bX)
    replace FA := (ownsRow_below FA bX)
    replace FZ := (FZ.on bX)
    replace FU := (FU.on bX)
    have ZX16 := bX.size
    replace BW := BW.trans (bX.mono BW.size)
    clear bX
    replace A := (⟨h1, h2.trans A.2⟩ : a.tmps.size = 126 ∧ a.defers = [])
    clear h1 h2 h3 h4
    have BB : Below X16.heap.size X16 X16 := Below.refl _ _
    refine wp_block ?_
    refine wp_loop (fun a W => ∃ (k : Nat), k ≤ n ∧ ((a.tmps.size = 126 ∧ a.defers = []) ∧ a.eval (.tmp 0) = .slice ao len cap ∧ a.eval (.tmp 1) = .int .i64 ((n : Nat) : Int) ∧ a.eval (.tmp 5) = .pointer (some ⟨g5, 0, none⟩) ∧ a.eval (.tmp 97) = .slice (some ⟨cg, 0, none⟩) n cc ∧ a.eval (.tmp 98) = .int .i64 ((n : Nat) : Int) ∧ a.eval (.tmp 99) = .int .i64 ((k : Nat) : Int) ∧ Below X16.heap.size X16 W)) (fun a _ => n - (intOf (a.eval (.tmp 99))).toNat) ⟨0, by omega, A, t0, t1, t5, t97, t98, t99, BB⟩ ?_
    clear A t0 t1 t5 t97 t98 t99 BB a
    rintro a XM ⟨k, hk, A, t0, t1, t5, t97, t98, t99, BB⟩
    have e99 := t99
    refine wp_seq ?_
    refine wp_region_sq (σ := Unit) 126 [(0, 100)] (fun j_ s X => match j_ with | 0 => Below X16.heap.size X16 X | _ => Below X16.heap.size X16 X) (fun s => fun i_ => match i_ with | 0 => .bool (decide (k < n)) | _ => undef) () A.1 (by kernel_rfl) (by decide) (by decide) (BB) ?_ ?_
    · intro i_ hi_ s a X hf hv hn hS
      match i_, hi_ with
      | 0, _ => exact stepV rfl rfl (execLtW (p := k) (q := n) rfl ((hf 99 (by decide)).trans t99) ((hf 98 (by decide)).trans t98)) ⟨s, ⟨_, rfl, rfl⟩, hS, fun _ _ => rfl⟩
      | k_ + 1, h_ => exact absurd h_ (by simp)
    rintro _ a X17 h1 h2 h3 h4 hS
    clear BB
    replace hS : Below X16.heap.size X16 X17 := hS
    have BB := hS
    clear hS
    replace t0 := (h3 0 (by decide)).trans t0
    replace t1 := (h3 1 (by decide)).trans t1
    replace t5 := (h3 5 (by decide)).trans t5
    replace t97 := (h3 97 (by decide)).trans t97
    replace t98 := (h3 98 (by decide)).trans t98
    replace t99 := (h3 99 (by decide)).trans t99
    have t100 : a.eval (.tmp 100) = .bool (decide (k < n)) := h4 0 _ rfl _ rfl
    replace A := (⟨h1, h2.trans A.2⟩ : a.tmps.size = 126 ∧ a.defers = [])
    clear h1 h2 h3 h4
    refine wp_seq ?_
    by_cases hlk : k < n
    · rw [decide_eq_true hlk] at t100
      refine wp_cond_true t100 ?_
      refine wp_skip ?_
      clear t100
      refine wp_seq ?_
      refine wp_block ?_
      refine wp_seq ?_
      refine wp_region_sq (σ := Unit) 126 [(0, 101), (1, 102), (2, 11)] (fun j_ s X => match j_ with | 0 => Below X16.heap.size X16 X | 1 => Below X16.heap.size X16 X | 2 => Below X16.heap.size X16 X | _ => Below X16.heap.size X16 X) (fun s => fun i_ => match i_ with | 0 => .pointer (some ⟨cg, 0 + k, none⟩) | 1 => (x k) | 2 => (x k) | _ => undef) () A.1 (by kernel_rfl) (by decide) (by decide) (BB) ?_ ?_
      · intro i_ hi_ s a X hf hv hn hS
        match i_, hi_ with
        | 0, _ => exact stepV rfl rfl (Cf.execIdxL (k := k) rfl ((hf 97 (by decide)).trans t97) ((hf 99 (by decide)).trans t99) (by omega)) ⟨s, ⟨_, rfl, rfl⟩, hS, fun _ _ => rfl⟩
        | 1, _ => exact stepV rfl rfl (execLdL rfl (hv 0 (by omega) _ rfl _ rfl) (ownL_cell (FPT.on hS).own (show k < n by omega))) ⟨s, ⟨_, rfl, rfl⟩, hS, fun _ _ => rfl⟩
        | 2, _ => exact stepV rfl rfl (execAsgB rfl (hv 1 (by omega) _ rfl _ rfl)) ⟨s, ⟨_, rfl, rfl⟩, hS, fun _ _ => rfl⟩
        | k_ + 3, h_ => exact absurd h_ (by simp)
      rintro _ a X18 h1 h2 h3 h4 hS
      clear BB
      replace hS : Below X16.heap.size X16 X18 := hS
      have BB := hS
      clear hS
      replace t0 := (h3 0 (by decide)).trans t0
      replace t1 := (h3 1 (by decide)).trans t1
      replace t5 := (h3 5 (by decide)).trans t5
      replace t97 := (h3 97 (by decide)).trans t97
      replace t98 := (h3 98 (by decide)).trans t98
      replace t99 := (h3 99 (by decide)).trans t99
      have t11 : a.eval (.tmp 11) = (x k) := h4 2 _ rfl _ rfl
      replace A := (⟨h1, h2.trans A.2⟩ : a.tmps.size = 126 ∧ a.defers = [])
      clear h1 h2 h3 h4
      refine wp_seq ?_
      refine wp_region_sq (σ := Unit) 126 [(0, 103), (1, 104), (2, 105), (3, 106), (4, 107), (5, 108), (6, 109), (7, 110)] (fun j_ s X => match j_ with | 0 => Below X16.heap.size X16 X | 1 => Below X16.heap.size X16 X | 2 => Below X16.heap.size X16 X | 3 => Below X16.heap.size X16 X | 4 => Below X16.heap.size X16 X | 5 => Below X16.heap.size X16 X | 6 => Below X16.heap.size X16 X | 7 => Below X16.heap.size X16 X | _ => Below X16.heap.size X16 X) (fun s => fun i_ => match i_ with | 0 => (x k) | 1 => .int .i64 ((q : Nat) : Int) | 2 => .pointer (some ⟨g5, 2, none⟩) | 3 => .slice (some ⟨cg, 0, none⟩) n cc | 4 => .pointer (some ⟨cg, 0 + 0, none⟩) | 5 => (x 0) | 6 => .int .i64 ((q : Nat) : Int) | 7 => .bool false | _ => undef) () A.1 (by kernel_rfl) (by decide) (by decide) (BB) ?_ ?_
      · intro i_ hi_ s a X hf hv hn hS
        match i_, hi_ with
        | 0, _ => exact stepV rfl rfl (execMvB rfl ((hf 11 (by decide)).trans t11)) ⟨s, ⟨_, rfl, rfl⟩, hS, fun _ _ => rfl⟩
        | 1, _ => exact stepV rfl rfl (execLenV (len := q) rfl (hv 0 (by omega) _ rfl _ rfl) (ownQ_shape (FPT.rowC k hlk))) ⟨s, ⟨_, rfl, rfl⟩, hS, fun _ _ => rfl⟩
        | 2, _ => exact stepV rfl rfl (execPt2 rfl ((hf 5 (by decide)).trans t5)) ⟨s, ⟨_, rfl, rfl⟩, hS, fun _ _ => rfl⟩
        | 3, _ => exact stepV rfl rfl (execLdLL rfl (hv 2 (by omega) _ rfl _ rfl) (ptC_at (on9 F5 hS)).2.2) ⟨s, ⟨_, rfl, rfl⟩, hS, fun _ _ => rfl⟩
        | 4, _ => exact stepV rfl rfl (Cf.execIdxL (k := 0) rfl (hv 3 (by omega) _ rfl _ rfl) rfl (by omega)) ⟨s, ⟨_, rfl, rfl⟩, hS, fun _ _ => rfl⟩
        | 5, _ => exact stepV rfl rfl (execLdL rfl (hv 4 (by omega) _ rfl _ rfl) (ownL_cell (FPT.on hS).own (show 0 < n by omega))) ⟨s, ⟨_, rfl, rfl⟩, hS, fun _ _ => rfl⟩
        | 6, _ => exact stepV rfl rfl (execLenV (len := q) rfl (hv 5 (by omega) _ rfl _ rfl) (ownQ_shape (FPT.rowC 0 hn0))) ⟨s, ⟨_, rfl, rfl⟩, hS, fun _ _ => rfl⟩
        | 7, _ => exact stepV rfl rfl (execDec (execNeN (p := q) (q := q) rfl (hv 1 (by omega) _ rfl _ rfl) (hv 6 (by omega) _ rfl _ rfl)) (decide_eq_false (by omega))) ⟨s, ⟨_, rfl, rfl⟩, hS, fun _ _ => rfl⟩
        | k_ + 8, h_ => exact absurd h_ (by simp)
      rintro _ a X19 h1 h2 h3 h4 hS
      clear BB
      replace hS : Below X16.heap.size X16 X19 := hS
      have BB := hS
      clear hS
      replace t0 := (h3 0 (by decide)).trans t0
      replace t1 := (h3 1 (by decide)).trans t1
      replace t5 := (h3 5 (by decide)).trans t5
      replace t97 := (h3 97 (by decide)).trans t97
      replace t98 := (h3 98 (by decide)).trans t98
      replace t99 := (h3 99 (by decide)).trans t99
      have t110 : a.eval (.tmp 110) = .bool false := h4 7 _ rfl _ rfl
      replace A := (⟨h1, h2.trans A.2⟩ : a.tmps.size = 126 ∧ a.defers = [])
      clear h1 h2 h3 h4
      clear t11
      refine wp_cond_false t110 ?_
      refine wp_skip ?_
      clear t110
      refine wp_region_sq (σ := Unit) 126 [(0, 111), (1, 99)] (fun j_ s X => match j_ with | 0 => Below X16.heap.size X16 X | 1 => Below X16.heap.size X16 X | _ => Below X16.heap.size X16 X) (fun s => fun i_ => match i_ with | 0 => .int .i64 ((k + 1 : Nat) : Int) | 1 => .int .i64 ((k + 1 : Nat) : Int) | _ => undef) () A.1 (by kernel_rfl) (by decide) (by decide) (BB) ?_ ?_
      · intro i_ hi_ s a X hf hv hn hS
        match i_, hi_ with
        | 0, _ => exact stepV rfl rfl (execAd8 (p := k) (q := 1) rfl ((hn 1 (by omega) _ rfl _ rfl).trans t99) rfl (by omega)) ⟨s, ⟨_, rfl, rfl⟩, hS, fun _ _ => rfl⟩
        | 1, _ => exact stepV rfl rfl (execMvB rfl (hv 0 (by omega) _ rfl _ rfl)) ⟨s, ⟨_, rfl, rfl⟩, hS, fun _ _ => rfl⟩
        | k_ + 2, h_ => exact absurd h_ (by simp)
      rintro _ a X21 h1 h2 h3 h4 hS
      clear BB
      replace hS : Below X16.heap.size X16 X21 := hS
      have BB := hS
      clear hS
      replace t0 := (h3 0 (by decide)).trans t0
      replace t1 := (h3 1 (by decide)).trans t1
      replace t5 := (h3 5 (by decide)).trans t5
      replace t97 := (h3 97 (by decide)).trans t97
      replace t98 := (h3 98 (by decide)).trans t98
      replace t99 : a.eval (.tmp 99) = .int .i64 ((k + 1 : Nat) : Int) := h4 1 _ rfl _ rfl
      replace A := (⟨h1, h2.trans A.2⟩ : a.tmps.size = 126 ∧ a.defers = [])
      clear h1 h2 h3 h4
      exact ⟨⟨k + 1, hlk, A, t0, t1, t5, t97, t98, t99, BB⟩, by show n - (intOf (a.eval (.tmp 99))).toNat < n - (intOf (Act.eval _ (.tmp 99))).toNat; rw [t99, e99]; show n - (k + 1) < n - k; omega⟩
    · rw [decide_eq_false hlk] at t100
      refine wp_cond_false t100 ?_
      refine wp_exit ?_
      first | refine exit_in ?_ | refine exit_then (exit_in ?_) | refine exit_then (exit_then (exit_in ?_))
      clear t100 t97 t98 t99 e99
      replace FP := (FP.on BB)
      replace FPT := (FPT.on BB)
      replace Fge5 := Fge5
      replace F5 := (on9 F5 BB)
      replace Fr52 := (ownsLL_below Fr52 BB)
      replace FA := (ownsRow_below FA BB)
      replace FZ := (FZ.on BB)
      replace FU := (FU.on BB)
      replace BW := BW.trans (BB.mono BW.size)
      clear BB
      refine wp_seq ?_
      refine wp_region_sq (σ := Unit) 126 [(0, 112), (1, 113), (2, 114), (3, 115), (4, 116), (5, 117), (6, 118), (7, 119), (8, 120), (9, 121), (10, 122), (11, 123), (12, 124), (13, 125), (14, 4)] (fun j_ s X => match j_ with | 0 => Below X17.heap.size X17 X | 1 => Below X17.heap.size X17 X | 2 => Below X17.heap.size X17 X | 3 => Below X17.heap.size X17 X | 4 => Below X17.heap.size X17 X | 5 => Below X17.heap.size X17 X | 6 => Below X17.heap.size X17 X | 7 => Below X17.heap.size X17 X | 8 => Below X17.heap.size X17 X | 9 => Below X17.heap.size X17 X | 10 => Below X17.heap.size X17 X | 11 => Below X17.heap.size X17 X | 12 => Below X17.heap.size X17 X | 13 => Below X17.heap.size X17 X | 14 => Below X17.heap.size X17 X | _ => Below X17.heap.size X17 X) (fun s => fun i_ => match i_ with | 0 => .pointer (some ⟨g5, 0, none⟩) | 1 => nv | 2 => .int .i64 ((18 : Nat) : Int) | 3 => .bool true | 4 => .bool true | 5 => .pointer (some ⟨g5, 1, none⟩) | 6 => bv | 7 => .int .i64 ((H : Nat) : Int) | 8 => .slice ao len cap | 9 => .int .i64 ((len : Nat) : Int) | 10 => .int .i64 ((len - 18 : Nat) : Int) | 11 => .int .i64 (((len - 18) / 2 : Nat) : Int) | 12 => .bool true | 13 => .bool true | 14 => .bool true | _ => undef) () A.1 (by kernel_rfl) (by decide) (by decide) (Below.refl _ _) ?_ ?_
      · intro i_ hi_ s a X hf hv hn hS
        match i_, hi_ with
        | 0, _ => exact stepV rfl rfl (execPt0 rfl ((hf 5 (by decide)).trans t5)) ⟨s, ⟨_, rfl, rfl⟩, hS, fun _ _ => rfl⟩
        | 1, _ => exact stepV rfl rfl (execLdL rfl (hv 0 (by omega) _ rfl _ rfl) (ptC_at (on9 F5 hS)).1) ⟨s, ⟨_, rfl, rfl⟩, hS, fun _ _ => rfl⟩
        | 2, _ => exact stepV rfl rfl (execLenV (len := 18) rfl (hv 1 (by omega) _ rfl _ rfl) (ownQ_shape FPT.rowN)) ⟨s, ⟨_, rfl, rfl⟩, hS, fun _ _ => rfl⟩
        | 3, _ => exact stepV rfl rfl (execDec (execEqN (p := 18) (q := 18) rfl (hv 2 (by omega) _ rfl _ rfl) rfl) (decide_eq_true (by omega))) ⟨s, ⟨_, rfl, rfl⟩, hS, fun _ _ => rfl⟩
        | 4, _ => exact stepV rfl rfl (execMvB rfl (hv 3 (by omega) _ rfl _ rfl)) ⟨s, ⟨_, rfl, rfl⟩, hS, fun _ _ => rfl⟩
        | 5, _ => exact stepV rfl (wantedOf rfl (yieldedAt rfl rfl (show a.eval (.tmp 116) = .bool true from (hv 4 (by omega) _ rfl _ rfl)))) (execPt1 rfl ((hf 5 (by decide)).trans t5)) ⟨s, ⟨_, rfl, rfl⟩, hS, fun _ _ => rfl⟩
        | 6, _ => exact stepV rfl (wantedOf rfl (yieldedAt rfl rfl (show a.eval (.tmp 116) = .bool true from (hv 4 (by omega) _ rfl _ rfl)))) (execLdL rfl (hv 5 (by omega) _ rfl _ rfl) (ptC_at (on9 F5 hS)).2.1) ⟨s, ⟨_, rfl, rfl⟩, hS, fun _ _ => rfl⟩
        | 7, _ => exact stepV rfl (wantedOf rfl (yieldedAt rfl rfl (show a.eval (.tmp 116) = .bool true from (hv 4 (by omega) _ rfl _ rfl)))) (execLenV (len := H) rfl (hv 6 (by omega) _ rfl _ rfl) (ownQ_shape FPT.rowB)) ⟨s, ⟨_, rfl, rfl⟩, hS, fun _ _ => rfl⟩
        | 8, _ => exact stepV rfl (wantedOf rfl (yieldedAt rfl rfl (show a.eval (.tmp 116) = .bool true from (hv 4 (by omega) _ rfl _ rfl)))) (execMvB rfl ((hf 0 (by decide)).trans t0)) ⟨s, ⟨_, rfl, rfl⟩, hS, fun _ _ => rfl⟩
        | 9, _ => exact stepV rfl (wantedOf rfl (yieldedAt rfl rfl (show a.eval (.tmp 116) = .bool true from (hv 4 (by omega) _ rfl _ rfl)))) (execLenV (len := len) rfl (hv 8 (by omega) _ rfl _ rfl) (shp9 (FP.on hS))) ⟨s, ⟨_, rfl, rfl⟩, hS, fun _ _ => rfl⟩
        | 10, _ => exact stepV rfl (wantedOf rfl (yieldedAt rfl rfl (show a.eval (.tmp 116) = .bool true from (hv 4 (by omega) _ rfl _ rfl)))) (By8.execSubI (p := len) (q := 18) rfl (hv 9 (by omega) _ rfl _ rfl) rfl (by omega) (by omega)) ⟨s, ⟨_, rfl, rfl⟩, hS, fun _ _ => rfl⟩
        | 11, _ => exact stepV rfl (wantedOf rfl (yieldedAt rfl rfl (show a.eval (.tmp 116) = .bool true from (hv 4 (by omega) _ rfl _ rfl)))) (execQuoN (p := len - 18) (q := 2) rfl (hv 10 (by omega) _ rfl _ rfl) rfl (by omega) (by omega)) ⟨s, ⟨_, rfl, rfl⟩, hS, fun _ _ => rfl⟩
        | 12, _ => exact stepV rfl (wantedOf rfl (yieldedAt rfl rfl (show a.eval (.tmp 116) = .bool true from (hv 4 (by omega) _ rfl _ rfl)))) (execDec (execEqN (p := H) (q := (len - 18) / 2) rfl (hv 7 (by omega) _ rfl _ rfl) (hv 11 (by omega) _ rfl _ rfl)) (decide_eq_true (by omega))) ⟨s, ⟨_, rfl, rfl⟩, hS, fun _ _ => rfl⟩
        | 13, _ => exact stepV rfl rfl (execPickT rfl (hv 4 (by omega) _ rfl _ rfl) (hv 12 (by omega) _ rfl _ rfl)) ⟨s, ⟨_, rfl, rfl⟩, hS, fun _ _ => rfl⟩
        | 14, _ => exact stepV rfl rfl (execAsgB rfl (hv 13 (by omega) _ rfl _ rfl)) ⟨s, ⟨_, rfl, rfl⟩, hS, fun _ _ => rfl⟩
        | k_ + 15, h_ => exact absurd h_ (by simp)
      rintro _ a X22 h1 h2 h3 h4 hS
      replace hS : Below X17.heap.size X17 X22 := hS
      have bX := hS
      clear hS
      have t4 : a.eval (.tmp 4) = .bool true := h4 14 _ rfl _ rfl
      replace FP := (FP.on bX)
      replace FPT := (FPT.on bX)
      replace Fge5 := Fge5
      replace F5 := (on9 F5 bX)
      replace Fr52 := (ownsLL_below Fr52 bX)
      replace FA := (ownsRow_below FA bX)
      replace FZ := (FZ.on bX)
      replace FU := (FU.on bX)
      have ZX22 := bX.size
      replace BW := BW.trans (bX.mono BW.size)
      clear bX
      replace A := (⟨h1, h2.trans A.2⟩ : a.tmps.size = 126 ∧ a.defers = [])
      clear h1 h2 h3 h4
      clear t0 t1 t5
      refine wp_ret ?_
      refine bodyPost_ret (results_tmp rfl _ _ _) A.2 ⟨?_, BW⟩
      show Ending.returned (a.eval (.tmp 4)) = _
      rw [t4]
theorem parts_any (f : Nat → Nat) (len : Nat) (ch : Int) (v : Value) (V : World) (hv : SliceN V v len f) (hl : len ≤ 140737488351232) :
    Calls Try.prog 5 #[v, .int .i64 ch] V fun e w' => e = .returned (.bool true) ∧ Below V.heap.size V w' := by
  by_cases h1 : ch < 1
  · exact parts_lo f len ch v V hv hl h1
  · by_cases h2 : 64 < ch
    · exact parts_hi f len ch v V hv hl h2
    · by_cases h3 : len < 18
      · exact parts_short f len ch v V hv hl h1 h2 h3
      · obtain ⟨n, rfl⟩ : ∃ n : Nat, ch = n := ⟨ch.toNat, by omega⟩
        exact parts_ok f len n v V hv hl (by omega) (by omega) (by omega)
end Go.Proofs.Ytigkmgoidbamnaa.Tap
