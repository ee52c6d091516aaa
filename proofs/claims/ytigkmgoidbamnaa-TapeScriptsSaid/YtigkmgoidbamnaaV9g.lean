import Derived.Test.YtigkmgoidbamnaaV9f
import Derived.Test.YtigkmgoidbamnaaV9a
namespace Go.Proofs.Ytigkmgoidbamnaa.Tap
open Go.RowKit Gf8 Aes By8 Cel Cf
/- Parts; the law's alike where they are the same. Written by tools/mkV9g.py. -/

def ptC (n b c : Value) : Array Value := #[n, b, c]
theorem ptC_at {W : World} {g : Nat} {n b c : Value} {t : TypeId} (h : W.heap[g]? = some (.cells (ptC n b c) t)) : W.cell? ⟨g, 0, none⟩ = some n ∧ W.cell? ⟨g, 1, none⟩ = some b ∧ W.cell? ⟨g, 2, none⟩ = some c := by
  refine ⟨?_, ?_, ?_⟩
  · rw [cell_of_row _ _ _ _ _ _ h]; rfl
  · rw [cell_of_row _ _ _ _ _ _ h]; rfl
  · rw [cell_of_row _ _ _ _ _ _ h]; rfl
section
variable {o : Oper} {a : Act} {w : World}
theorem execPt0 {x : Operand} {b : Nat} (ho : o.op = .fieldAddr 49 x 0) (hx : a.eval x = .pointer (some ⟨b, 0, none⟩)) : (execOp a.eval o).run Try.prog w = .ok (.value (.pointer (some ⟨b, 0, none⟩))) w := by
  unfold execOp
  simp only [ho, hx]
  simp [go_sem]
theorem execPt1 {x : Operand} {b : Nat} (ho : o.op = .fieldAddr 49 x 1) (hx : a.eval x = .pointer (some ⟨b, 0, none⟩)) : (execOp a.eval o).run Try.prog w = .ok (.value (.pointer (some ⟨b, 1, none⟩))) w := by
  unfold execOp
  simp only [ho, hx]
  simp [go_sem]
theorem execPt2 {x : Operand} {b : Nat} (ho : o.op = .fieldAddr 49 x 2) (hx : a.eval x = .pointer (some ⟨b, 0, none⟩)) : (execOp a.eval o).run Try.prog w = .ok (.value (.pointer (some ⟨b, 2, none⟩))) w := by
  unfold execOp
  simp only [ho, hx]
  simp [go_sem]
theorem execNe3 {x y : Operand} {p : Int} (ho : o.op = .binOp .neq 3 x y 3) (hx : a.eval x = .int .i64 p) (hy : a.eval y = .int .i64 p) : (execOp a.eval o).run Try.prog w = .ok (.value (.bool false)) w := by
  unfold execOp
  simp only [ho, hx, hy]
  simp [go_sem]
end
structure LA (ra rb : Nat) (a : Act) : Prop where
  sz : a.tmps.size = 48
  df : a.defers = []
  t2 : a.eval (.tmp 2) = .pointer (some ⟨ra, 0, none⟩)
  t3 : a.eval (.tmp 3) = .pointer (some ⟨rb, 0, none⟩)
theorem LA.keep {ra rb : Nat} {a a' : Act} {ds : List Nat} (h : LA ra rb a) (hs : a'.tmps.size = 48) (hd : a'.defers = a.defers) (hf : ∀ e, e ∉ ds → a'.eval (.tmp e) = a.eval (.tmp e)) (hk : ([2, 3] : List Nat).all (fun k => !ds.contains k) = true) : LA ra rb a' := by
  have hk2 : ∀ k, k ∈ ([2, 3] : List Nat) → k ∉ ds := fun k hk1 => by
    have := List.all_eq_true.1 hk k hk1
    simpa using this
  exact ⟨hs, hd.trans h.df, (hf 2 (hk2 2 (by simp))).trans h.t2, (hf 3 (hk2 3 (by simp))).trans h.t3⟩
set_option maxRecDepth 100000 in
set_option maxHeartbeats 4000000 in
theorem alike1 (na ba nb bb : Value) (ra rb n : Nat) (aa ab : Option Addr) (ka kb : Nat) (ln lb : Nat) (xa xb : Nat → Value) (lc : Nat → Nat) (fn gn fb gb : Nat → Nat) (fc gc : Nat → Nat → Nat) (V Wb : World) (bV : Below V.heap.size V Wb)
    (ldA : (∀ X, Below Wb.heap.size Wb X → X.cell? ⟨ra, 0, none⟩ = some na ∧ X.cell? ⟨ra, 1, none⟩ = some ba ∧ X.cell? ⟨ra, 2, none⟩ = some (.slice aa n ka))) (ldB : (∀ X, Below Wb.heap.size Wb X → X.cell? ⟨rb, 0, none⟩ = some nb ∧ X.cell? ⟨rb, 1, none⟩ = some bb ∧ X.cell? ⟨rb, 2, none⟩ = some (.slice ab n kb)))
    (sN : ∀ X, Below Wb.heap.size Wb X → SliceN X na ln fn ∧ SliceN X nb ln gn) (eN : ∀ j, j < ln → fn j = gn j) (sB : ∀ X, Below Wb.heap.size Wb X → SliceN X ba lb fb ∧ SliceN X bb lb gb) (eB : ∀ j, j < lb → fb j = gb j)
    (sC : ∀ X, Below Wb.heap.size Wb X → ∀ i, i < n → SliceN X (xa i) (lc i) (fc i) ∧ SliceN X (xb i) (lc i) (gc i)) (eC : ∀ i, i < n → ∀ j, j < lc i → fc i j = gc i j)
    (rA : 0 < n → ∃ ca oa, aa = some ⟨ca, oa, none⟩ ∧ ∀ X, Below Wb.heap.size Wb X → ∀ i, i < n → X.cell? ⟨ca, oa + i, none⟩ = some (xa i)) (rB : 0 < n → ∃ cb ob, ab = some ⟨cb, ob, none⟩ ∧ ∀ X, Below Wb.heap.size Wb X → ∀ i, i < n → X.cell? ⟨cb, ob + i, none⟩ = some (xb i)) (hn : n ≤ 1000000)
    (a : Act) (W : World) (A : LA ra rb a) (BW : Below Wb.heap.size Wb W) : (fromR 1 (Try.f19.body.getD .skip)).wp Try.prog (bodyPost Try.prog Try.f19 fun e w' => e = .returned (.bool true) ∧ Below V.heap.size V w') a W := by
  refine wp_seq ?_
  refine wp_seq ?_
  refine wp_region_sq (σ := Unit) 48 [(0, 6), (1, 7), (2, 8), (3, 9), (4, 10), (5, 11), (6, 12), (7, 13), (8, 14), (9, 15), (10, 16), (11, 17), (12, 18), (13, 19), (14, 20), (15, 21), (16, 22), (17, 23), (18, 24), (19, 25), (20, 26), (21, 27), (22, 28)] (fun j_ s X => Below W.heap.size W X ∧ (match j_ with | 0 => True | 1 => True | 2 => True | 3 => True | 4 => True | 5 => True | 6 => True | 7 => True | 8 => True | 9 => True | 10 => True | 11 => True | 12 => True | 13 => True | 14 => True | 15 => True | 16 => True | 17 => True | 18 => True | 19 => True | 20 => True | 21 => True | 22 => True | _ => True)) (fun s => fun i_ => match i_ with | 0 => .pointer (some ⟨ra, 0, none⟩) | 1 => na | 2 => .pointer (some ⟨rb, 0, none⟩) | 3 => nb | 4 => .bool true | 5 => .bool false | 6 => .bool false | 7 => .pointer (some ⟨ra, 1, none⟩) | 8 => ba | 9 => .pointer (some ⟨rb, 1, none⟩) | 10 => bb | 11 => .bool true | 12 => .bool false | 13 => .bool false | 14 => .bool false | 15 => .pointer (some ⟨ra, 2, none⟩) | 16 => .slice aa n ka | 17 => .int .i64 ((n : Nat) : Int) | 18 => .pointer (some ⟨rb, 2, none⟩) | 19 => .slice ab n kb | 20 => .int .i64 ((n : Nat) : Int) | 21 => .bool false | 22 => .bool false | _ => undef) () A.sz (by kernel_rfl) (by decide) (by decide) ⟨Below.refl _ _, trivial⟩ ?_ ?_
  · intro i_ hi_ s a X hf hv hn hS
    match i_, hi_ with
    | 0, _ => exact stepV rfl rfl (execPt0 rfl ((hf 2 (by decide)).trans A.t2)) ⟨s, ⟨_, rfl, rfl⟩, hS, fun _ _ => rfl⟩
    | 1, _ => exact stepV rfl rfl (execLdL rfl (hv 0 (by omega) _ rfl _ rfl) (ldA _ (BW.trans (hS.1.mono BW.size))).1) ⟨s, ⟨_, rfl, rfl⟩, hS, fun _ _ => rfl⟩
    | 2, _ => exact stepV rfl rfl (execPt0 rfl ((hf 3 (by decide)).trans A.t3)) ⟨s, ⟨_, rfl, rfl⟩, hS, fun _ _ => rfl⟩
    | 3, _ => exact stepV rfl rfl (execLdL rfl (hv 2 (by omega) _ rfl _ rfl) (ldB _ (BW.trans (hS.1.mono BW.size))).1) ⟨s, ⟨_, rfl, rfl⟩, hS, fun _ _ => rfl⟩
    | 4, _ =>
      refine stepC rfl rfl (execCall2 Try.func10 (by kernel_rfl) (by kernel_rfl) rfl (hv 1 (by omega) _ rfl _ rfl) (hv 3 (by omega) _ rfl _ rfl)) (same_true _ _ _ _ _ X (sN X (BW.trans (hS.1.mono BW.size))).1 (sN X (BW.trans (hS.1.mono BW.size))).2 eN) fun e w' hh => ⟨_, hh.1, s, ⟨_, rfl, rfl⟩, by rw [hh.2]; exact hS, fun _ _ => rfl⟩
    | 5, _ => exact stepV rfl rfl (execNot8 rfl (hv 4 (by omega) _ rfl _ rfl)) ⟨s, ⟨_, rfl, rfl⟩, hS, fun _ _ => rfl⟩
    | 6, _ => exact stepV rfl rfl (execMvB rfl (hv 5 (by omega) _ rfl _ rfl)) ⟨s, ⟨_, rfl, rfl⟩, hS, fun _ _ => rfl⟩
    | 7, _ => exact stepV rfl (wantedOf rfl (yieldedAt rfl rfl (show a.eval (.tmp 12) = .bool false from (hv 6 (by omega) _ rfl _ rfl)))) (execPt1 rfl ((hf 2 (by decide)).trans A.t2)) ⟨s, ⟨_, rfl, rfl⟩, hS, fun _ _ => rfl⟩
    | 8, _ => exact stepV rfl (wantedOf rfl (yieldedAt rfl rfl (show a.eval (.tmp 12) = .bool false from (hv 6 (by omega) _ rfl _ rfl)))) (execLdL rfl (hv 7 (by omega) _ rfl _ rfl) (ldA _ (BW.trans (hS.1.mono BW.size))).2.1) ⟨s, ⟨_, rfl, rfl⟩, hS, fun _ _ => rfl⟩
    | 9, _ => exact stepV rfl (wantedOf rfl (yieldedAt rfl rfl (show a.eval (.tmp 12) = .bool false from (hv 6 (by omega) _ rfl _ rfl)))) (execPt1 rfl ((hf 3 (by decide)).trans A.t3)) ⟨s, ⟨_, rfl, rfl⟩, hS, fun _ _ => rfl⟩
    | 10, _ => exact stepV rfl (wantedOf rfl (yieldedAt rfl rfl (show a.eval (.tmp 12) = .bool false from (hv 6 (by omega) _ rfl _ rfl)))) (execLdL rfl (hv 9 (by omega) _ rfl _ rfl) (ldB _ (BW.trans (hS.1.mono BW.size))).2.1) ⟨s, ⟨_, rfl, rfl⟩, hS, fun _ _ => rfl⟩
    | 11, _ =>
      refine stepC rfl (wantedOf rfl (yieldedAt rfl rfl (show a.eval (.tmp 12) = .bool false from (hv 6 (by omega) _ rfl _ rfl)))) (execCall2 Try.func10 (by kernel_rfl) (by kernel_rfl) rfl (hv 8 (by omega) _ rfl _ rfl) (hv 10 (by omega) _ rfl _ rfl)) (same_true _ _ _ _ _ X (sB X (BW.trans (hS.1.mono BW.size))).1 (sB X (BW.trans (hS.1.mono BW.size))).2 eB) fun e w' hh => ⟨_, hh.1, s, ⟨_, rfl, rfl⟩, by rw [hh.2]; exact hS, fun _ _ => rfl⟩
    | 12, _ => exact stepV rfl (wantedOf rfl (yieldedAt rfl rfl (show a.eval (.tmp 12) = .bool false from (hv 6 (by omega) _ rfl _ rfl)))) (execNot8 rfl (hv 11 (by omega) _ rfl _ rfl)) ⟨s, ⟨_, rfl, rfl⟩, hS, fun _ _ => rfl⟩
    | 13, _ => exact stepV rfl rfl (execPickF rfl (hv 6 (by omega) _ rfl _ rfl) (hv 12 (by omega) _ rfl _ rfl)) ⟨s, ⟨_, rfl, rfl⟩, hS, fun _ _ => rfl⟩
    | 14, _ => exact stepV rfl rfl (execMvB rfl (hv 13 (by omega) _ rfl _ rfl)) ⟨s, ⟨_, rfl, rfl⟩, hS, fun _ _ => rfl⟩
    | 15, _ => exact stepV rfl (wantedOf rfl (yieldedAt rfl rfl (show a.eval (.tmp 20) = .bool false from (hv 14 (by omega) _ rfl _ rfl)))) (execPt2 rfl ((hf 2 (by decide)).trans A.t2)) ⟨s, ⟨_, rfl, rfl⟩, hS, fun _ _ => rfl⟩
    | 16, _ => exact stepV rfl (wantedOf rfl (yieldedAt rfl rfl (show a.eval (.tmp 20) = .bool false from (hv 14 (by omega) _ rfl _ rfl)))) (execLdLL rfl (hv 15 (by omega) _ rfl _ rfl) (ldA _ (BW.trans (hS.1.mono BW.size))).2.2) ⟨s, ⟨_, rfl, rfl⟩, hS, fun _ _ => rfl⟩
    | 17, _ => exact stepV rfl (wantedOf rfl (yieldedAt rfl rfl (show a.eval (.tmp 20) = .bool false from (hv 14 (by omega) _ rfl _ rfl)))) (execLenL (len := n) rfl (hv 16 (by omega) _ rfl _ rfl)) ⟨s, ⟨_, rfl, rfl⟩, hS, fun _ _ => rfl⟩
    | 18, _ => exact stepV rfl (wantedOf rfl (yieldedAt rfl rfl (show a.eval (.tmp 20) = .bool false from (hv 14 (by omega) _ rfl _ rfl)))) (execPt2 rfl ((hf 3 (by decide)).trans A.t3)) ⟨s, ⟨_, rfl, rfl⟩, hS, fun _ _ => rfl⟩
    | 19, _ => exact stepV rfl (wantedOf rfl (yieldedAt rfl rfl (show a.eval (.tmp 20) = .bool false from (hv 14 (by omega) _ rfl _ rfl)))) (execLdLL rfl (hv 18 (by omega) _ rfl _ rfl) (ldB _ (BW.trans (hS.1.mono BW.size))).2.2) ⟨s, ⟨_, rfl, rfl⟩, hS, fun _ _ => rfl⟩
    | 20, _ => exact stepV rfl (wantedOf rfl (yieldedAt rfl rfl (show a.eval (.tmp 20) = .bool false from (hv 14 (by omega) _ rfl _ rfl)))) (execLenL (len := n) rfl (hv 19 (by omega) _ rfl _ rfl)) ⟨s, ⟨_, rfl, rfl⟩, hS, fun _ _ => rfl⟩
    | 21, _ => exact stepV rfl (wantedOf rfl (yieldedAt rfl rfl (show a.eval (.tmp 20) = .bool false from (hv 14 (by omega) _ rfl _ rfl)))) (execNe3 rfl (hv 17 (by omega) _ rfl _ rfl) (hv 20 (by omega) _ rfl _ rfl)) ⟨s, ⟨_, rfl, rfl⟩, hS, fun _ _ => rfl⟩
    | 22, _ => exact stepV rfl rfl (execPickF rfl (hv 14 (by omega) _ rfl _ rfl) (hv 21 (by omega) _ rfl _ rfl)) ⟨s, ⟨_, rfl, rfl⟩, hS, fun _ _ => rfl⟩
    | k_ + 23, h_ => exact absurd h_ (by simp)
  intro s a X h1 h2 h3 h4 hS
  have hS : Below W.heap.size W X := hS.1
  have t28 : a.eval (.tmp 28) = .bool false := h4 22 _ rfl _ rfl
  have A := A.keep h1 h2 h3 (by decide)
  clear h1 h2 h3 h4
  have BW := BW.trans (hS.mono BW.size)
  clear hS
  obtain ⟨W, hW⟩ : ∃ W, W = X := ⟨_, rfl⟩
  rw [← hW] at BW ⊢
  clear hW
  refine wp_cond_false t28 ?_
  refine wp_skip ?_
  refine wp_seq ?_
  refine wp_seq ?_
  refine wp_region_sqK 48 [(0, 29), (1, 30), (2, 31), (3, 32)] (fun i_ => match i_ with | 0 => .pointer (some ⟨ra, 2, none⟩) | 1 => .slice aa n ka | 2 => .int .i64 ((n : Nat) : Int) | 3 => .int .i64 ((0 : Nat) : Int) | _ => undef) A.sz (by kernel_rfl) (by decide) (by decide) ?_ ?_
  · intro i_ hi_ a hf hv hn
    match i_, hi_ with
    | 0, _ => exact stepV rfl rfl (execPt2 rfl ((hf 2 (by decide)).trans A.t2)) ⟨⟨_, rfl, rfl⟩, rfl⟩
    | 1, _ => exact stepV rfl rfl (execLdLL rfl (hv 0 (by omega) _ rfl _ rfl) (ldA _ BW).2.2) ⟨⟨_, rfl, rfl⟩, rfl⟩
    | 2, _ => exact stepV rfl rfl (execLenL (len := n) rfl (hv 1 (by omega) _ rfl _ rfl)) ⟨⟨_, rfl, rfl⟩, rfl⟩
    | 3, _ => exact stepV rfl rfl (execMvB rfl rfl) ⟨⟨_, rfl, rfl⟩, rfl⟩
    | k_ + 4, h_ => exact absurd h_ (by simp)
  intro a h1 h2 h3 h4
  have t31 : a.eval (.tmp 31) = .int .i64 ((n : Nat) : Int) := h4 2 _ rfl _ rfl
  have t32 : a.eval (.tmp 32) = .int .i64 ((0 : Nat) : Int) := h4 3 _ rfl _ rfl
  have A := A.keep h1 h2 h3 (by decide)
  clear h1 h2 h3 h4
  refine wp_block ?_
  refine wp_loop (fun a W => ∃ i : Nat, i ≤ n ∧ LA ra rb a ∧ a.eval (.tmp 31) = .int .i64 ((n : Nat) : Int) ∧ a.eval (.tmp 32) = .int .i64 ((i : Nat) : Int) ∧ Below Wb.heap.size Wb W) (fun a _ => n - (intOf (a.eval (.tmp 32))).toNat) ⟨0, by omega, A, t31, t32, BW⟩ ?_
  clear A t31 t32 t28 BW a W
  rintro a W ⟨i, hi, A, t31, t32, BW⟩
  have e32 := t32
  refine wp_seq ?_
  refine wp_region_sqK 48 [(0, 33)] (fun i_ => match i_ with | 0 => .bool (decide (i < n)) | _ => undef) A.sz (by kernel_rfl) (by decide) (by decide) ?_ ?_
  · intro i_ hi_ a hf hv hn
    match i_, hi_ with
    | 0, _ => exact stepV rfl rfl (execLtW (p := i) (q := n) rfl ((hf 32 (by decide)).trans t32) ((hf 31 (by decide)).trans t31)) ⟨⟨_, rfl, rfl⟩, rfl⟩
    | k_ + 1, h_ => exact absurd h_ (by simp)
  intro a h1 h2 h3 h4
  have t31 := (h3 31 (by decide)).trans t31
  have t32 := (h3 32 (by decide)).trans t32
  have t33 : a.eval (.tmp 33) = .bool (decide (i < n)) := h4 0 _ rfl _ rfl
  have A := A.keep h1 h2 h3 (by decide)
  clear h1 h2 h3 h4
  refine wp_seq ?_
  by_cases hlt : i < n
  · rw [decide_eq_true hlt] at t33
    refine wp_cond_true t33 ?_
    refine wp_skip ?_
    clear t33
    obtain ⟨ca, oa, rfl, cA⟩ := rA (by omega)
    obtain ⟨cb, ob, rfl, cB⟩ := rB (by omega)
    have cA := fun X hX => cA X hX i hlt
    have cB := fun X hX => cB X hX i hlt
    refine wp_seq ?_
    refine wp_block ?_
    refine wp_seq ?_
    refine wp_region_sqK 48 [(0, 34), (1, 5)] (fun i_ => match i_ with | 0 => .int .i64 ((i : Nat) : Int) | 1 => .int .i64 ((i : Nat) : Int) | _ => undef) A.sz (by kernel_rfl) (by decide) (by decide) ?_ ?_
    · intro i_ hi_ a hf hv hn
      match i_, hi_ with
      | 0, _ => exact stepV rfl rfl (execMvB rfl ((hf 32 (by decide)).trans t32)) ⟨⟨_, rfl, rfl⟩, rfl⟩
      | 1, _ => exact stepV rfl rfl (execAsgB rfl (hv 0 (by omega) _ rfl _ rfl)) ⟨⟨_, rfl, rfl⟩, rfl⟩
      | k_ + 2, h_ => exact absurd h_ (by simp)
    intro a h1 h2 h3 h4
    have t31 := (h3 31 (by decide)).trans t31
    have t32 := (h3 32 (by decide)).trans t32
    have t5 : a.eval (.tmp 5) = .int .i64 ((i : Nat) : Int) := h4 1 _ rfl _ rfl
    have A := A.keep h1 h2 h3 (by decide)
    clear h1 h2 h3 h4
    refine wp_seq ?_
    refine wp_region_detA 48 [(0, 35), (1, 36), (2, 37), (3, 38), (4, 39), (5, 40), (6, 41), (7, 42), (8, 43), (9, 44), (10, 45), (11, 46)] (fun i_ => match i_ with | 0 => .pointer (some ⟨ra, 2, none⟩) | 1 => .slice (some ⟨ca, oa, none⟩) n ka | 2 => .int .i64 ((i : Nat) : Int) | 3 => .pointer (some ⟨ca, oa + i, none⟩) | 4 => xa i | 5 => .pointer (some ⟨rb, 2, none⟩) | 6 => .slice (some ⟨cb, ob, none⟩) n kb | 7 => .int .i64 ((i : Nat) : Int) | 8 => .pointer (some ⟨cb, ob + i, none⟩) | 9 => xb i | 10 => .bool true | 11 => .bool false | _ => undef) (fun _ X => Below W.heap.size W X) (by kernel_rfl) (by kernel_rfl) A.sz (by kernel_rfl) (by decide) (by decide) (Below.refl _ _).drew ?_ ?_
    · intro i_ hi_ l a X hl hf hdep hl2 hcl _ hT
      match i_, hi_ with
      | 0, _ => exact stepV rfl rfl (execPt2 rfl ((hf 2 (by decide)).trans A.t2)) ⟨⟨_, rfl, rfl⟩, hT⟩
      | 1, _ => exact stepV rfl rfl (execLdLL rfl (hdep _ rfl 0 rfl _ rfl _ rfl) (ldA _ (BW.trans (hT.mono BW.size))).2.2) ⟨⟨_, rfl, rfl⟩, hT⟩
      | 2, _ => exact stepV rfl rfl (execMvB rfl ((hf 5 (by decide)).trans t5)) ⟨⟨_, rfl, rfl⟩, hT⟩
      | 3, _ => exact stepV rfl rfl (Cf.execIdxL (k := i) rfl (hdep _ rfl 1 rfl _ rfl _ rfl) (hdep _ rfl 2 rfl _ rfl _ rfl) (by exact hlt)) ⟨⟨_, rfl, rfl⟩, hT⟩
      | 4, _ => exact stepV rfl rfl (execLdL rfl (hdep _ rfl 3 rfl _ rfl _ rfl) (cA _ (BW.trans (hT.mono BW.size)))) ⟨⟨_, rfl, rfl⟩, hT⟩
      | 5, _ => exact stepV rfl rfl (execPt2 rfl ((hf 3 (by decide)).trans A.t3)) ⟨⟨_, rfl, rfl⟩, hT⟩
      | 6, _ => exact stepV rfl rfl (execLdLL rfl (hdep _ rfl 5 rfl _ rfl _ rfl) (ldB _ (BW.trans (hT.mono BW.size))).2.2) ⟨⟨_, rfl, rfl⟩, hT⟩
      | 7, _ => exact stepV rfl rfl (execMvB rfl ((hf 5 (by decide)).trans t5)) ⟨⟨_, rfl, rfl⟩, hT⟩
      | 8, _ => exact stepV rfl rfl (Cf.execIdxL (k := i) rfl (hdep _ rfl 6 rfl _ rfl _ rfl) (hdep _ rfl 7 rfl _ rfl _ rfl) (by exact hlt)) ⟨⟨_, rfl, rfl⟩, hT⟩
      | 9, _ => exact stepV rfl rfl (execLdL rfl (hdep _ rfl 8 rfl _ rfl _ rfl) (cB _ (BW.trans (hT.mono BW.size)))) ⟨⟨_, rfl, rfl⟩, hT⟩
      | 10, _ => exact stepC rfl rfl (execCall2 Try.func10 (by kernel_rfl) (by kernel_rfl) rfl (hdep _ rfl 4 rfl _ rfl _ rfl) (hdep _ rfl 9 rfl _ rfl _ rfl)) (same_true _ _ _ _ _ X (sC X (BW.trans (hT.mono BW.size)) i hlt).1 (sC X (BW.trans (hT.mono BW.size)) i hlt).2 (eC i hlt)) fun e w' hh => ⟨_, hh.1, ⟨_, rfl, rfl⟩, by rw [hh.2]; exact hT⟩
      | 11, _ => exact stepV rfl rfl (execNot8 rfl (hdep _ rfl 10 rfl _ rfl _ rfl)) ⟨⟨_, rfl, rfl⟩, hT⟩
      | k_ + 12, h_ => exact absurd h_ (by simp)
    intro l a X h1 h2 h3 h4 hall hT
    have t31 := (h3 31 (by decide)).trans t31
    have t32 := (h3 32 (by decide)).trans t32
    have t46 : a.eval (.tmp 46) = .bool false := h4 (11, 46) (by decide)
    have A := A.keep h1 h2 h3 (by decide)
    clear h1 h2 h3 h4
    clear hall
    have BW := BW.trans (hT.mono BW.size)
    clear hT
    refine wp_cond_false t46 ?_
    refine wp_skip ?_
    clear t46
    refine wp_region_sqK 48 [(0, 47), (1, 32)] (fun i_ => match i_ with | 0 => .int .i64 ((i + 1 : Nat) : Int) | 1 => .int .i64 ((i + 1 : Nat) : Int) | _ => undef) A.sz (by kernel_rfl) (by decide) (by decide) ?_ ?_
    · intro i_ hi_ a hf hv hn
      match i_, hi_ with
      | 0, _ => exact stepV rfl rfl (execAd8 (p := i) (q := 1) rfl ((hn 1 (by omega) _ rfl _ rfl).trans t32) rfl (by have := hn; omega)) ⟨⟨_, rfl, rfl⟩, rfl⟩
      | 1, _ => exact stepV rfl rfl (execMvB rfl (hv 0 (by omega) _ rfl _ rfl)) ⟨⟨_, rfl, rfl⟩, rfl⟩
      | k_ + 2, h_ => exact absurd h_ (by simp)
    intro a h1 h2 h3 h4
    have t31 := (h3 31 (by decide)).trans t31
    have t32 : a.eval (.tmp 32) = .int .i64 ((i + 1 : Nat) : Int) := h4 1 _ rfl _ rfl
    have A := A.keep h1 h2 h3 (by decide)
    clear h1 h2 h3 h4
    exact ⟨⟨i + 1, hlt, A, t31, t32, BW⟩, by show n - (intOf (a.eval (.tmp 32))).toNat < n - (intOf (Act.eval _ (.tmp 32))).toNat; rw [t32, e32]; show n - (i + 1) < n - i; omega⟩
  · rw [decide_eq_false hlt] at t33
    refine wp_cond_false t33 ?_
    refine wp_exit ?_
    first | refine exit_in ?_ | refine exit_then (exit_in ?_) | refine exit_then (exit_then (exit_in ?_))
    refine wp_seq ?_
    refine wp_region_sqK 48 [(0, 4)] (fun i_ => match i_ with | 0 => .bool true | _ => undef) A.sz (by kernel_rfl) (by decide) (by decide) ?_ ?_
    · intro i_ hi_ a hf hv hn
      match i_, hi_ with
      | 0, _ => exact stepV rfl rfl (execAsgB rfl rfl) ⟨⟨_, rfl, rfl⟩, rfl⟩
      | k_ + 1, h_ => exact absurd h_ (by simp)
    intro a h1 h2 h3 h4
    have t4 : a.eval (.tmp 4) = .bool true := h4 0 _ rfl _ rfl
    have A := A.keep h1 h2 h3 (by decide)
    clear h1 h2 h3 h4
    refine wp_ret ?_
    refine bodyPost_ret (results_tmp rfl _ _ _) A.df ⟨?_, bV.trans (BW.mono bV.size)⟩
    show Ending.returned (a.eval (.tmp 4)) = _
    rw [t4]
end Go.Proofs.Ytigkmgoidbamnaa.Tap
