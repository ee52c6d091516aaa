import Derived.Test.YtdecmmcphcomhaaQ9k
namespace Go.Proofs.Ytdecmmcphcomhaa.Brd
open Go.RowKit Gf8 Aes By8 Cel Cf Tap Drw Prm
/- Package braid as it landed: begin, told, visit. Written by tools/mkQ9l.py. -/

/-- The cells of a rest. -/
def rsC (l x : Value) : Array Value := #[l, x]
def x2 (l x : Value) (t : Nat) : Value := if t = 0 then l else x
def ffB (sf : Nat → Int) (t j : Nat) : Int := if t = 0 then (gN sf j : Int) else (sumN (gN sf) j : Int)
theorem size_rs (l x : Value) : (Try.prog.info? 69).map (·.size) = some (rsC l x).size := by
  show _ = some 2
  kernel_rfl
theorem rs_one {l x : Value} (hl : ∃ g n c, l = .slice g n c) (hx : ∃ g n c, x = .slice g n c) : (rsC l x).all (·.oneCell') = true := by
  obtain ⟨_, _, _, rfl⟩ := hl
  obtain ⟨_, _, _, rfl⟩ := hx
  simp [rsC, Value.oneCell']
theorem rs_at0 {W : World} {g : Nat} {l x : Value} {t : TypeId} (h : W.heap[g]? = some (.cells (rsC l x) t)) : W.cell? ⟨g, 0, none⟩ = some l := by rw [cell_of_row _ _ _ _ _ _ h]; rfl
theorem rs_at1 {W : World} {g : Nat} {l x : Value} {t : TypeId} (h : W.heap[g]? = some (.cells (rsC l x) t)) : W.cell? ⟨g, 1, none⟩ = some x := by rw [cell_of_row _ _ _ _ _ _ h]; rfl
section
variable {o : Oper} {a : Act} {w : World}
theorem execAllRs (ho : o.op = .alloc 69) : (execOp a.eval o).run Try.prog w = .ok (.value (.pointer (some ⟨w.heap.size, 0, none⟩))) (w.alloc (.cells (rsC (.slice none 0 0) (.slice none 0 0)) 69)) := by
  unfold execOp rsC
  simp only [ho]
  simp [go_sem]
theorem execBoxRs {x : Operand} {l y : Value} (ho : o.op = .box 69 x) (hx : a.eval x = .agg (rsC l y)) : (execOp a.eval o).run Try.prog w = .ok (.value (.pointer (some ⟨w.heap.size, 0, none⟩))) (w.alloc (.cells (rsC l y) 69)) := by
  unfold execOp
  simp only [ho, hx]
  simp [go_sem, rsC]
theorem execFldRs0 {x : Operand} {b : Nat} (ho : o.op = .fieldAddr 69 x 0) (hx : a.eval x = .pointer (some ⟨b, 0, none⟩)) : (execOp a.eval o).run Try.prog w = .ok (.value (.pointer (some ⟨b, 0, none⟩))) w := by
  unfold execOp
  simp only [ho, hx]
  simp [go_sem]
theorem execFldRs1 {x : Operand} {b : Nat} (ho : o.op = .fieldAddr 69 x 1) (hx : a.eval x = .pointer (some ⟨b, 0, none⟩)) : (execOp a.eval o).run Try.prog w = .ok (.value (.pointer (some ⟨b, 1, none⟩))) w := by
  unfold execOp
  simp only [ho, hx]
  simp [go_sem]
theorem execBdRs {x y : Operand} {l z : Value} (ho : o.op = .build 69 #[(0, x), (1, y)]) (hx : a.eval x = l) (hy : a.eval y = z) (hl : ∃ g n c, l = .slice g n c) (hz : ∃ g n c, z = .slice g n c) : (execOp a.eval o).run Try.prog w = .ok (.value (.agg (rsC l z))) w := by
  obtain ⟨_, _, _, rfl⟩ := hl
  obtain ⟨_, _, _, rfl⟩ := hz
  unfold execOp
  simp only [ho, List.map_toArray, List.map_cons, List.map_nil, hx, hy]
  simp [go_sem, rsC]
theorem execStRs {x y : Operand} {g : Nat} {l z : Value} {cur : Array Value} {t : TypeId} (ho : o.op = .store 69 x y) (hx : a.eval x = .pointer (some ⟨g, 0, none⟩)) (hy : a.eval y = .agg (rsC l z)) (hg : w.heap[g]? = some (.cells cur t)) (hl : ∃ g n c, l = .slice g n c) (hz : ∃ g n c, z = .slice g n c) (hs : cur.size = 2 := by rfl) :
    (execOp a.eval o).run Try.prog w = .ok .skip (w.setRow g (rsC l z)) := by
  have h := execStMid (P := Try.prog) ho hx hy hg (by rw [hs]; exact Nat.le_refl _) (size_rs _ _) (rs_one hl hz)
  have e : (cur.toList.take 0 ++ (rsC l z).toList ++ cur.toList.drop (0 + (rsC l z).size)).toArray = rsC l z := by
    rw [List.take_zero, List.nil_append, Nat.zero_add, List.drop_of_length_le (by rw [Array.length_toList, hs]; exact Nat.le_refl _), List.append_nil]
  rw [e] at h
  exact h
theorem execLdRs {x : Operand} {g : Nat} {l z : Value} {t : TypeId} {fr : Nat × Nat} (ho : o.op = .load 69 x) (hx : a.eval x = .pointer (some ⟨g, 0, none⟩)) (hg : w.heap[g]? = some (.cells (rsC l z) t fr)) :
    (execOp a.eval o).run Try.prog w = .ok (.value (.agg (rsC l z))) w := by
  have h := execLoadMid (P := Try.prog) (w := w) (cs := (rsC l z).toList) ho hx (fun j v hj => by rw [cell_of_row _ _ _ _ _ _ hg, Nat.zero_add, ← Array.getElem?_toList]; exact hj) Try.underlying69 rfl (size_rs _ _)
  exact h
end
set_option maxRecDepth 100000 in
set_option maxHeartbeats 4000000 in
/-- The program's told. -/
theorem ptold (r : Nat → Nat) (J d : Nat) (l x : Value) (V : World) (hl : SliceI V l J (fun j => (r j : Int))) (hd : d < sumN r J) (hb : sumN r J ≤ 1000000) (hJ64 : J ≤ 64) :
    Calls Try.prog 34 #[.agg (rsC l x), .int .i64 ((d : Nat) : Int)] V fun e w' => e = .returned (.tuple #[.int .i64 ((pj r d J : Nat) : Int), .int .i64 ((d - sumN r (pj r d J) : Nat) : Int)]) ∧ Below V.heap.size V w' := by
  have hJ : 0 < J := by
    rcases Nat.eq_zero_or_pos J with q | q
    · subst q; exact absurd hd (Nat.not_lt_zero _)
    · exact q
  obtain ⟨la, lc, rfl, -, -, hsh⟩ := id hl.shape
  obtain ⟨lb, lo, rfl, hlb, hcell⟩ := hsh hJ
  have cR : ∀ j, j < J → ∀ X, Below V.heap.size V X → X.cell? ⟨lb, lo + j, none⟩ = some (.int .i64 ((r j : Nat) : Int)) := fun j hj X hX => by rw [cell_below hX hlb]; exact hcell j hj
  go_enter Try.func34, Try.ntmps34
  refine wp_open (fun a => (a.tmps.size = 24 ∧ a.defers = []) ∧ a.eval (.tmp 0) = .agg (rsC (.slice (some ⟨lb, lo, none⟩) J lc) x) ∧ a.eval (.tmp 1) = .int .i64 ((d : Nat) : Int)) ⟨⟨rfl, rfl⟩, rfl, rfl⟩ ?_
  rintro a ⟨A, t0, t1⟩
  have BB : Below V.heap.size V V := Below.refl _ _
  refine wp_seq ?_
  refine wp_region_sq (σ := Nat) 24 [(0, 2), (1, 4), (2, 5)] (fun j_ s X => match j_ with | 0 => Below V.heap.size V X | 1 => Below V.heap.size V X ∧ (X.heap[s]? = some (.cells (rsC (.slice (some ⟨lb, lo, none⟩) J lc) (x)) 69)) | 2 => Below V.heap.size V X ∧ (X.heap[s]? = some (.cells (rsC (.slice (some ⟨lb, lo, none⟩) J lc) (x)) 69)) | _ => Below V.heap.size V X ∧ (X.heap[s]? = some (.cells (rsC (.slice (some ⟨lb, lo, none⟩) J lc) (x)) 69))) (fun s => fun i_ => match i_ with | 0 => .pointer (some ⟨s, 0, none⟩) | 1 => .int .i64 ((0 : Nat) : Int) | 2 => .int .i64 ((0 : Nat) : Int) | _ => undef) 0 A.1 (by kernel_rfl) (by decide) (by decide) (BB) ?_ ?_
  · intro i_ hi_ s a X hf hv hn hS
    match i_, hi_ with
    | 0, _ =>
      refine stepV rfl rfl (execBoxRs rfl ((hf 0 (by decide)).trans t0)) ⟨X.heap.size, ⟨_, rfl, rfl⟩, ⟨(hS).trans (((belNew X _)).mono (hS).size), heapNew X _⟩, fun i hi => ?_⟩
      omega
    | 1, _ => exact stepV rfl rfl (execAsgB rfl rfl) ⟨s, ⟨_, rfl, rfl⟩, hS, fun _ _ => rfl⟩
    | 2, _ => exact stepV rfl rfl (execAsgB rfl rfl) ⟨s, ⟨_, rfl, rfl⟩, hS, fun _ _ => rfl⟩
    | k_ + 3, h_ => exact absurd h_ (by simp)
  rintro g2 a X0 h1 h2 h3 h4 hS
  clear BB
  replace hS : Below V.heap.size V X0 ∧ (X0.heap[g2]? = some (.cells (rsC (.slice (some ⟨lb, lo, none⟩) J lc) (x)) 69)) := hS
  obtain ⟨BB, F2⟩ := hS
  replace t1 := (h3 1 (by decide)).trans t1
  have t2 : a.eval (.tmp 2) = .pointer (some ⟨g2, 0, none⟩) := h4 0 _ rfl _ rfl
  have t4 : a.eval (.tmp 4) = .int .i64 ((0 : Nat) : Int) := h4 1 _ rfl _ rfl
  replace A := (⟨h1, h2.trans A.2⟩ : a.tmps.size = 24 ∧ a.defers = [])
  clear h1 h2 h3 h4
  clear t0
  obtain ⟨hP1, hP2, hP3⟩ := pj_lt hd
  refine wp_seq ?_
  refine wp_block ?_
  refine wp_loop (fun a W => ∃ j : Nat, j ≤ pj r d J ∧ (a.tmps.size = 24 ∧ a.defers = []) ∧ a.eval (.tmp 1) = .int .i64 ((d - sumN r j : Nat) : Int) ∧ a.eval (.tmp 2) = .pointer (some ⟨g2, 0, none⟩) ∧ a.eval (.tmp 4) = .int .i64 ((j : Nat) : Int) ∧ Below V.heap.size V W ∧ (W.heap[g2]? = some (.cells (rsC (.slice (some ⟨lb, lo, none⟩) J lc) (x)) 69))) (fun a _ => pj r d J - (intOf (a.eval (.tmp 4))).toNat) ⟨0, Nat.zero_le _, A, t1, t2, t4, BB, F2⟩ ?_
  clear A t1 t2 t4 BB F2 a
  rintro a XL ⟨j, hj, A, t1, t2, t4, BB, F2⟩
  have es := t4
  refine wp_seq ?_
  refine wp_seq ?_
  have hjJ : j < J := by omega
  by_cases hlt : j < pj r d J
  · have hm := sumN_at (r := r) hlt
    refine wp_region_sq (σ := Unit) 24 [(0, 6), (1, 7), (2, 8), (3, 9), (4, 10), (5, 11), (6, 12)] (fun j_ s X => match j_ with | 0 => Below V.heap.size V X ∧ (X.heap[g2]? = some (.cells (rsC (.slice (some ⟨lb, lo, none⟩) J lc) (x)) 69)) | 1 => Below V.heap.size V X ∧ (X.heap[g2]? = some (.cells (rsC (.slice (some ⟨lb, lo, none⟩) J lc) (x)) 69)) | 2 => Below V.heap.size V X ∧ (X.heap[g2]? = some (.cells (rsC (.slice (some ⟨lb, lo, none⟩) J lc) (x)) 69)) | 3 => Below V.heap.size V X ∧ (X.heap[g2]? = some (.cells (rsC (.slice (some ⟨lb, lo, none⟩) J lc) (x)) 69)) | 4 => Below V.heap.size V X ∧ (X.heap[g2]? = some (.cells (rsC (.slice (some ⟨lb, lo, none⟩) J lc) (x)) 69)) | 5 => Below V.heap.size V X ∧ (X.heap[g2]? = some (.cells (rsC (.slice (some ⟨lb, lo, none⟩) J lc) (x)) 69)) | 6 => Below V.heap.size V X ∧ (X.heap[g2]? = some (.cells (rsC (.slice (some ⟨lb, lo, none⟩) J lc) (x)) 69)) | _ => Below V.heap.size V X ∧ (X.heap[g2]? = some (.cells (rsC (.slice (some ⟨lb, lo, none⟩) J lc) (x)) 69))) (fun s => fun i_ => match i_ with | 0 => .int .i64 ((d - sumN r j : Nat) : Int) | 1 => .pointer (some ⟨g2, 0, none⟩) | 2 => .slice (some ⟨lb, lo, none⟩) J lc | 3 => .int .i64 ((j : Nat) : Int) | 4 => .pointer (some ⟨lb, lo + j, none⟩) | 5 => .int .i64 ((r j : Nat) : Int) | 6 => .bool true | _ => undef) () A.1 (by kernel_rfl) (by decide) (by decide) ⟨BB, F2⟩ ?_ ?_
    · intro i_ hi_ s a X hf hv hn hS
      match i_, hi_ with
      | 0, _ => exact stepV rfl rfl (execMvB rfl ((hf 1 (by decide)).trans t1)) ⟨s, ⟨_, rfl, rfl⟩, hS, fun _ _ => rfl⟩
      | 1, _ => exact stepV rfl rfl (execFldRs0 rfl ((hf 2 (by decide)).trans t2)) ⟨s, ⟨_, rfl, rfl⟩, hS, fun _ _ => rfl⟩
      | 2, _ => exact stepV rfl rfl (execLdLI (v := .slice (some ⟨lb, lo, none⟩) J lc) rfl (hv 1 (by omega) _ rfl _ rfl) (rs_at0 hS.2)) ⟨s, ⟨_, rfl, rfl⟩, hS, fun _ _ => rfl⟩
      | 3, _ => exact stepV rfl rfl (execMvB rfl ((hf 4 (by decide)).trans t4)) ⟨s, ⟨_, rfl, rfl⟩, hS, fun _ _ => rfl⟩
      | 4, _ => exact stepV rfl rfl (execIdxN (k := j) rfl (hv 2 (by omega) _ rfl _ rfl) (hv 3 (by omega) _ rfl _ rfl) hjJ) ⟨s, ⟨_, rfl, rfl⟩, hS, fun _ _ => rfl⟩
      | 5, _ => exact stepV rfl rfl (execLd3 rfl (hv 4 (by omega) _ rfl _ rfl) (cR j hjJ X hS.1)) ⟨s, ⟨_, rfl, rfl⟩, hS, fun _ _ => rfl⟩
      | 6, _ => exact stepV rfl rfl (execDec (execGe8 (p := d - sumN r j) (q := r j) rfl (hv 0 (by omega) _ rfl _ rfl) (hv 5 (by omega) _ rfl _ rfl)) (decide_eq_true (by omega))) ⟨s, ⟨_, rfl, rfl⟩, hS, fun _ _ => rfl⟩
      | k_ + 7, h_ => exact absurd h_ (by simp)
    rintro _ a X1 h1 h2 h3 h4 hS
    clear BB
    clear F2
    replace hS : Below V.heap.size V X1 ∧ (X1.heap[g2]? = some (.cells (rsC (.slice (some ⟨lb, lo, none⟩) J lc) (x)) 69)) := hS
    obtain ⟨BB, F2⟩ := hS
    replace t1 := (h3 1 (by decide)).trans t1
    replace t2 := (h3 2 (by decide)).trans t2
    replace t4 := (h3 4 (by decide)).trans t4
    have t12 : a.eval (.tmp 12) = .bool true := h4 6 _ rfl _ rfl
    replace A := (⟨h1, h2.trans A.2⟩ : a.tmps.size = 24 ∧ a.defers = [])
    clear h1 h2 h3 h4
    refine wp_cond_true t12 ?_
    refine wp_skip ?_
    clear t12
    refine wp_block ?_
    refine wp_seq ?_
    refine wp_region_sq (σ := Unit) 24 [(0, 13), (1, 14), (2, 15), (3, 16), (4, 17), (5, 18), (6, 19), (7, 1)] (fun j_ s X => match j_ with | 0 => Below V.heap.size V X ∧ (X.heap[g2]? = some (.cells (rsC (.slice (some ⟨lb, lo, none⟩) J lc) (x)) 69)) | 1 => Below V.heap.size V X ∧ (X.heap[g2]? = some (.cells (rsC (.slice (some ⟨lb, lo, none⟩) J lc) (x)) 69)) | 2 => Below V.heap.size V X ∧ (X.heap[g2]? = some (.cells (rsC (.slice (some ⟨lb, lo, none⟩) J lc) (x)) 69)) | 3 => Below V.heap.size V X ∧ (X.heap[g2]? = some (.cells (rsC (.slice (some ⟨lb, lo, none⟩) J lc) (x)) 69)) | 4 => Below V.heap.size V X ∧ (X.heap[g2]? = some (.cells (rsC (.slice (some ⟨lb, lo, none⟩) J lc) (x)) 69)) | 5 => Below V.heap.size V X ∧ (X.heap[g2]? = some (.cells (rsC (.slice (some ⟨lb, lo, none⟩) J lc) (x)) 69)) | 6 => Below V.heap.size V X ∧ (X.heap[g2]? = some (.cells (rsC (.slice (some ⟨lb, lo, none⟩) J lc) (x)) 69)) | 7 => Below V.heap.size V X ∧ (X.heap[g2]? = some (.cells (rsC (.slice (some ⟨lb, lo, none⟩) J lc) (x)) 69)) | _ => Below V.heap.size V X ∧ (X.heap[g2]? = some (.cells (rsC (.slice (some ⟨lb, lo, none⟩) J lc) (x)) 69))) (fun s => fun i_ => match i_ with | 0 => .int .i64 ((d - sumN r j : Nat) : Int) | 1 => .pointer (some ⟨g2, 0, none⟩) | 2 => .slice (some ⟨lb, lo, none⟩) J lc | 3 => .int .i64 ((j : Nat) : Int) | 4 => .pointer (some ⟨lb, lo + j, none⟩) | 5 => .int .i64 ((r j : Nat) : Int) | 6 => .int .i64 ((d - sumN r j - (r j) : Nat) : Int) | 7 => .int .i64 ((d - sumN r j - (r j) : Nat) : Int) | _ => undef) () A.1 (by kernel_rfl) (by decide) (by decide) ⟨BB, F2⟩ ?_ ?_
    · intro i_ hi_ s a X hf hv hn hS
      match i_, hi_ with
      | 0, _ => exact stepV rfl rfl (execMvB rfl ((hn 7 (by omega) _ rfl _ rfl).trans t1)) ⟨s, ⟨_, rfl, rfl⟩, hS, fun _ _ => rfl⟩
      | 1, _ => exact stepV rfl rfl (execFldRs0 rfl ((hf 2 (by decide)).trans t2)) ⟨s, ⟨_, rfl, rfl⟩, hS, fun _ _ => rfl⟩
      | 2, _ => exact stepV rfl rfl (execLdLI (v := .slice (some ⟨lb, lo, none⟩) J lc) rfl (hv 1 (by omega) _ rfl _ rfl) (rs_at0 hS.2)) ⟨s, ⟨_, rfl, rfl⟩, hS, fun _ _ => rfl⟩
      | 3, _ => exact stepV rfl rfl (execMvB rfl ((hf 4 (by decide)).trans t4)) ⟨s, ⟨_, rfl, rfl⟩, hS, fun _ _ => rfl⟩
      | 4, _ => exact stepV rfl rfl (execIdxN (k := j) rfl (hv 2 (by omega) _ rfl _ rfl) (hv 3 (by omega) _ rfl _ rfl) hjJ) ⟨s, ⟨_, rfl, rfl⟩, hS, fun _ _ => rfl⟩
      | 5, _ => exact stepV rfl rfl (execLd3 rfl (hv 4 (by omega) _ rfl _ rfl) (cR j hjJ X hS.1)) ⟨s, ⟨_, rfl, rfl⟩, hS, fun _ _ => rfl⟩
      | 6, _ => exact stepV rfl rfl (By8.execSubI (p := d - sumN r j) (q := r j) rfl (hv 0 (by omega) _ rfl _ rfl) (hv 5 (by omega) _ rfl _ rfl) (by omega) (by omega)) ⟨s, ⟨_, rfl, rfl⟩, hS, fun _ _ => rfl⟩
      | 7, _ => exact stepV rfl rfl (execAsgB rfl (hv 6 (by omega) _ rfl _ rfl)) ⟨s, ⟨_, rfl, rfl⟩, hS, fun _ _ => rfl⟩
      | k_ + 8, h_ => exact absurd h_ (by simp)
    rintro _ a X2 h1 h2 h3 h4 hS
    clear BB
    clear F2
    replace hS : Below V.heap.size V X2 ∧ (X2.heap[g2]? = some (.cells (rsC (.slice (some ⟨lb, lo, none⟩) J lc) (x)) 69)) := hS
    obtain ⟨BB, F2⟩ := hS
    replace t1 : a.eval (.tmp 1) = .int .i64 ((d - sumN r j - (r j) : Nat) : Int) := h4 7 _ rfl _ rfl
    replace t2 := (h3 2 (by decide)).trans t2
    replace t4 := (h3 4 (by decide)).trans t4
    replace A := (⟨h1, h2.trans A.2⟩ : a.tmps.size = 24 ∧ a.defers = [])
    clear h1 h2 h3 h4
    refine wp_region_sq (σ := Unit) 24 [(0, 20), (1, 21), (2, 4)] (fun j_ s X => match j_ with | 0 => Below V.heap.size V X ∧ (X.heap[g2]? = some (.cells (rsC (.slice (some ⟨lb, lo, none⟩) J lc) (x)) 69)) | 1 => Below V.heap.size V X ∧ (X.heap[g2]? = some (.cells (rsC (.slice (some ⟨lb, lo, none⟩) J lc) (x)) 69)) | 2 => Below V.heap.size V X ∧ (X.heap[g2]? = some (.cells (rsC (.slice (some ⟨lb, lo, none⟩) J lc) (x)) 69)) | _ => Below V.heap.size V X ∧ (X.heap[g2]? = some (.cells (rsC (.slice (some ⟨lb, lo, none⟩) J lc) (x)) 69))) (fun s => fun i_ => match i_ with | 0 => .int .i64 ((j : Nat) : Int) | 1 => .int .i64 ((j + 1 : Nat) : Int) | 2 => .int .i64 ((j + 1 : Nat) : Int) | _ => undef) () A.1 (by kernel_rfl) (by decide) (by decide) ⟨BB, F2⟩ ?_ ?_
    · intro i_ hi_ s a X hf hv hn hS
      match i_, hi_ with
      | 0, _ => exact stepV rfl rfl (execMvB rfl ((hn 2 (by omega) _ rfl _ rfl).trans t4)) ⟨s, ⟨_, rfl, rfl⟩, hS, fun _ _ => rfl⟩
      | 1, _ => exact stepV rfl rfl (execAd8 (p := j) (q := 1) rfl (hv 0 (by omega) _ rfl _ rfl) rfl (by omega)) ⟨s, ⟨_, rfl, rfl⟩, hS, fun _ _ => rfl⟩
      | 2, _ => exact stepV rfl rfl (execAsgB rfl (hv 1 (by omega) _ rfl _ rfl)) ⟨s, ⟨_, rfl, rfl⟩, hS, fun _ _ => rfl⟩
      | k_ + 3, h_ => exact absurd h_ (by simp)
    rintro _ a X3 h1 h2 h3 h4 hS
    clear BB
    clear F2
    replace hS : Below V.heap.size V X3 ∧ (X3.heap[g2]? = some (.cells (rsC (.slice (some ⟨lb, lo, none⟩) J lc) (x)) 69)) := hS
    obtain ⟨BB, F2⟩ := hS
    replace t1 := (h3 1 (by decide)).trans t1
    replace t2 := (h3 2 (by decide)).trans t2
    replace t4 : a.eval (.tmp 4) = .int .i64 ((j + 1 : Nat) : Int) := h4 2 _ rfl _ rfl
    replace A := (⟨h1, h2.trans A.2⟩ : a.tmps.size = 24 ∧ a.defers = [])
    clear h1 h2 h3 h4
    have e1 : d - sumN r j - r j = d - sumN r (j + 1) := by show _ = d - (sumN r j + r j); omega
    rw [e1] at t1
    refine ⟨⟨j + 1, by omega, A, t1, t2, t4, BB, F2⟩, ?_⟩
    show pj r d J - (intOf (a.eval (.tmp 4))).toNat < pj r d J - (intOf (Act.eval _ (.tmp 4))).toNat
    rw [t4, es]
    show pj r d J - (j + 1) < pj r d J - j
    omega
  · have hjP : pj r d J = j := by omega
    rw [hjP] at hP2 hP3
    refine wp_region_sq (σ := Unit) 24 [(0, 6), (1, 7), (2, 8), (3, 9), (4, 10), (5, 11), (6, 12)] (fun j_ s X => match j_ with | 0 => Below V.heap.size V X ∧ (X.heap[g2]? = some (.cells (rsC (.slice (some ⟨lb, lo, none⟩) J lc) (x)) 69)) | 1 => Below V.heap.size V X ∧ (X.heap[g2]? = some (.cells (rsC (.slice (some ⟨lb, lo, none⟩) J lc) (x)) 69)) | 2 => Below V.heap.size V X ∧ (X.heap[g2]? = some (.cells (rsC (.slice (some ⟨lb, lo, none⟩) J lc) (x)) 69)) | 3 => Below V.heap.size V X ∧ (X.heap[g2]? = some (.cells (rsC (.slice (some ⟨lb, lo, none⟩) J lc) (x)) 69)) | 4 => Below V.heap.size V X ∧ (X.heap[g2]? = some (.cells (rsC (.slice (some ⟨lb, lo, none⟩) J lc) (x)) 69)) | 5 => Below V.heap.size V X ∧ (X.heap[g2]? = some (.cells (rsC (.slice (some ⟨lb, lo, none⟩) J lc) (x)) 69)) | 6 => Below V.heap.size V X ∧ (X.heap[g2]? = some (.cells (rsC (.slice (some ⟨lb, lo, none⟩) J lc) (x)) 69)) | _ => Below V.heap.size V X ∧ (X.heap[g2]? = some (.cells (rsC (.slice (some ⟨lb, lo, none⟩) J lc) (x)) 69))) (fun s => fun i_ => match i_ with | 0 => .int .i64 ((d - sumN r j : Nat) : Int) | 1 => .pointer (some ⟨g2, 0, none⟩) | 2 => .slice (some ⟨lb, lo, none⟩) J lc | 3 => .int .i64 ((j : Nat) : Int) | 4 => .pointer (some ⟨lb, lo + j, none⟩) | 5 => .int .i64 ((r j : Nat) : Int) | 6 => .bool false | _ => undef) () A.1 (by kernel_rfl) (by decide) (by decide) ⟨BB, F2⟩ ?_ ?_
    · intro i_ hi_ s a X hf hv hn hS
      match i_, hi_ with
      | 0, _ => exact stepV rfl rfl (execMvB rfl ((hf 1 (by decide)).trans t1)) ⟨s, ⟨_, rfl, rfl⟩, hS, fun _ _ => rfl⟩
      | 1, _ => exact stepV rfl rfl (execFldRs0 rfl ((hf 2 (by decide)).trans t2)) ⟨s, ⟨_, rfl, rfl⟩, hS, fun _ _ => rfl⟩
      | 2, _ => exact stepV rfl rfl (execLdLI (v := .slice (some ⟨lb, lo, none⟩) J lc) rfl (hv 1 (by omega) _ rfl _ rfl) (rs_at0 hS.2)) ⟨s, ⟨_, rfl, rfl⟩, hS, fun _ _ => rfl⟩
      | 3, _ => exact stepV rfl rfl (execMvB rfl ((hf 4 (by decide)).trans t4)) ⟨s, ⟨_, rfl, rfl⟩, hS, fun _ _ => rfl⟩
      | 4, _ => exact stepV rfl rfl (execIdxN (k := j) rfl (hv 2 (by omega) _ rfl _ rfl) (hv 3 (by omega) _ rfl _ rfl) hjJ) ⟨s, ⟨_, rfl, rfl⟩, hS, fun _ _ => rfl⟩
      | 5, _ => exact stepV rfl rfl (execLd3 rfl (hv 4 (by omega) _ rfl _ rfl) (cR j hjJ X hS.1)) ⟨s, ⟨_, rfl, rfl⟩, hS, fun _ _ => rfl⟩
      | 6, _ => exact stepV rfl rfl (execDec (execGe8 (p := d - sumN r j) (q := r j) rfl (hv 0 (by omega) _ rfl _ rfl) (hv 5 (by omega) _ rfl _ rfl)) (decide_eq_false (by omega))) ⟨s, ⟨_, rfl, rfl⟩, hS, fun _ _ => rfl⟩
      | k_ + 7, h_ => exact absurd h_ (by simp)
    rintro _ a X1 h1 h2 h3 h4 hS
    clear BB
    clear F2
    replace hS : Below V.heap.size V X1 ∧ (X1.heap[g2]? = some (.cells (rsC (.slice (some ⟨lb, lo, none⟩) J lc) (x)) 69)) := hS
    obtain ⟨BB, F2⟩ := hS
    replace t1 := (h3 1 (by decide)).trans t1
    replace t2 := (h3 2 (by decide)).trans t2
    replace t4 := (h3 4 (by decide)).trans t4
    have t12 : a.eval (.tmp 12) = .bool false := h4 6 _ rfl _ rfl
    replace A := (⟨h1, h2.trans A.2⟩ : a.tmps.size = 24 ∧ a.defers = [])
    clear h1 h2 h3 h4
    refine wp_cond_false t12 ?_
    refine wp_exit ?_
    first | refine exit_in ?_ | refine exit_then (exit_in ?_) | refine exit_then (exit_then (exit_in ?_))
    clear t12 es t2 F2
    obtain rfl : j = pj r d J := by omega
    refine wp_seq ?_
    refine wp_region_sq (σ := Unit) 24 [(0, 22), (1, 23), (2, 4), (3, 5)] (fun j_ s X => match j_ with | 0 => Below V.heap.size V X | 1 => Below V.heap.size V X | 2 => Below V.heap.size V X | 3 => Below V.heap.size V X | _ => Below V.heap.size V X) (fun s => fun i_ => match i_ with | 0 => .int .i64 ((pj r d J : Nat) : Int) | 1 => .int .i64 ((d - sumN r (pj r d J) : Nat) : Int) | 2 => .int .i64 ((pj r d J : Nat) : Int) | 3 => .int .i64 ((d - sumN r (pj r d J) : Nat) : Int) | _ => undef) () A.1 (by kernel_rfl) (by decide) (by decide) (BB) ?_ ?_
    · intro i_ hi_ s a X hf hv hn hS
      match i_, hi_ with
      | 0, _ => exact stepV rfl rfl (execMvB rfl ((hn 2 (by omega) _ rfl _ rfl).trans t4)) ⟨s, ⟨_, rfl, rfl⟩, hS, fun _ _ => rfl⟩
      | 1, _ => exact stepV rfl rfl (execMvB rfl ((hf 1 (by decide)).trans t1)) ⟨s, ⟨_, rfl, rfl⟩, hS, fun _ _ => rfl⟩
      | 2, _ => exact stepV rfl rfl (execAsgB rfl (hv 0 (by omega) _ rfl _ rfl)) ⟨s, ⟨_, rfl, rfl⟩, hS, fun _ _ => rfl⟩
      | 3, _ => exact stepV rfl rfl (execAsgB rfl (hv 1 (by omega) _ rfl _ rfl)) ⟨s, ⟨_, rfl, rfl⟩, hS, fun _ _ => rfl⟩
      | k_ + 4, h_ => exact absurd h_ (by simp)
    rintro _ a X4 h1 h2 h3 h4 hS
    clear BB
    replace hS : Below V.heap.size V X4 := hS
    have BB := hS
    clear hS
    replace t4 : a.eval (.tmp 4) = .int .i64 ((pj r d J : Nat) : Int) := h4 2 _ rfl _ rfl
    have t5 : a.eval (.tmp 5) = .int .i64 ((d - sumN r (pj r d J) : Nat) : Int) := h4 3 _ rfl _ rfl
    replace A := (⟨h1, h2.trans A.2⟩ : a.tmps.size = 24 ∧ a.defers = [])
    clear h1 h2 h3 h4
    clear t1
    refine wp_ret ?_
    refine bodyPost_ret (results_tmp2 rfl _ _ _) A.2 ⟨?_, BB⟩
    show Ending.returned (.tuple #[a.eval (.tmp 4), a.eval (.tmp 5)]) = _
    rw [t4, t5]
set_option maxRecDepth 100000 in
set_option maxHeartbeats 4000000 in
/-- The program's visit. -/
theorem pvisit (U V : World) (k t u j p q : Nat) (x : Nat → Value) (nn : Nat → Nat) (ff : Nat → Nat → Int) (BB : Below U.heap.size U V) (FM : FmI U.heap.size k x nn ff V) (ht : t < k) (hu : u < k) (htu : t ≠ u) (hjt : j < nn t) (hju : j < nn u) (hp : ff u j = (p : Int)) (hq : ff t j = (q : Int)) (hp1 : p ≤ 1000000) (hq1 : 1 ≤ q) (hq2 : q ≤ 1000000) :
    Calls Try.prog 35 #[.agg (rsC (x t) (x u)), .int .i64 ((j : Nat) : Int)] V fun e w' => e = .returned (.int .i64 ((p : Nat) : Int)) ∧ FmI U.heap.size k x nn (updF (updF ff u j ((p + 1 : Nat) : Int)) t j ((q - 1 : Nat) : Int)) w' ∧ Saved (fun b => (x t).ownBlock = some b ∨ (x u).ownBlock = some b) V w' ∧ Below U.heap.size U w' := by
  obtain ⟨gt, ct, et, hBt, hgt⟩ := ownL_some9 (FM.rows t ht) (by omega)
  obtain ⟨gu, cu, eu, hBu, hgu⟩ := ownL_some9 (FM.rows u hu) (by omega)
  go_enter Try.func35, Try.ntmps35
  refine wp_open (fun a => (a.tmps.size = 26 ∧ a.defers = []) ∧ a.eval (.tmp 0) = .agg (rsC (x t) (x u)) ∧ a.eval (.tmp 1) = .int .i64 ((j : Nat) : Int)) ⟨⟨rfl, rfl⟩, rfl, rfl⟩ ?_
  rintro a ⟨A, t0, t1⟩
  have FXs : Saved (fun b => (x t).ownBlock = some b ∨ (x u).ownBlock = some b) V V := Saved.refl _ _
  refine wp_seq ?_
  refine wp_region_sq (σ := Nat) 26 [(0, 2), (1, 4)] (fun j_ s X => match j_ with | 0 => Below U.heap.size U X ∧ (FmI U.heap.size k x nn (ff) X) ∧ (Saved (fun b => (x t).ownBlock = some b ∨ (x u).ownBlock = some b) V X) | 1 => Below U.heap.size U X ∧ (FmI U.heap.size k x nn (ff) X) ∧ (Saved (fun b => (x t).ownBlock = some b ∨ (x u).ownBlock = some b) V X) ∧ (X.heap[s]? = some (.cells (rsC (x t) (x u)) 69)) ∧ (s ≠ gt ∧ s ≠ gu) | _ => Below U.heap.size U X ∧ (FmI U.heap.size k x nn (ff) X) ∧ (Saved (fun b => (x t).ownBlock = some b ∨ (x u).ownBlock = some b) V X) ∧ (X.heap[s]? = some (.cells (rsC (x t) (x u)) 69)) ∧ (s ≠ gt ∧ s ≠ gu)) (fun s => fun i_ => match i_ with | 0 => .pointer (some ⟨s, 0, none⟩) | 1 => .int .i64 ((0 : Nat) : Int) | _ => undef) 0 A.1 (by kernel_rfl) (by decide) (by decide) ⟨BB, FM, FXs⟩ ?_ ?_
  · intro i_ hi_ s a X hf hv hn hS
    match i_, hi_ with
    | 0, _ =>
      refine stepV rfl rfl (execBoxRs rfl ((hf 0 (by decide)).trans t0)) ⟨X.heap.size, ⟨_, rfl, rfl⟩, ⟨(hS.1).trans (((belNew X _)).mono (hS.1).size), (hS.2.1.on (belNew X _)), (hS.2.2.below (belNew X _) hS.2.2.size), heapNew X _, ⟨fun q => by have := (hS.2.1.rows t ht).lt gt (by rw [et]; rfl); omega, fun q => by have := (hS.2.1.rows u hu).lt gu (by rw [eu]; rfl); omega⟩⟩, fun i hi => ?_⟩
      omega
    | 1, _ => exact stepV rfl rfl (execAsgB rfl rfl) ⟨s, ⟨_, rfl, rfl⟩, hS, fun _ _ => rfl⟩
    | k_ + 2, h_ => exact absurd h_ (by simp)
  rintro g2 a X0 h1 h2 h3 h4 hS
  clear BB
  clear FM
  clear FXs
  replace hS : Below U.heap.size U X0 ∧ (FmI U.heap.size k x nn (ff) X0) ∧ (Saved (fun b => (x t).ownBlock = some b ∨ (x u).ownBlock = some b) V X0) ∧ (X0.heap[g2]? = some (.cells (rsC (x t) (x u)) 69)) ∧ (g2 ≠ gt ∧ g2 ≠ gu) := hS
  obtain ⟨BB, FM, FXs, F2, Fn⟩ := hS
  replace t1 := (h3 1 (by decide)).trans t1
  have t2 : a.eval (.tmp 2) = .pointer (some ⟨g2, 0, none⟩) := h4 0 _ rfl _ rfl
  have t4 : a.eval (.tmp 4) = .int .i64 ((0 : Nat) : Int) := h4 1 _ rfl _ rfl
  replace A := (⟨h1, h2.trans A.2⟩ : a.tmps.size = 26 ∧ a.defers = [])
  clear h1 h2 h3 h4
  clear t0
  refine wp_seq ?_
  refine wp_region_sq (σ := Unit) 26 [(0, 6), (1, 7), (2, 8), (3, 9), (4, 10), (5, 5)] (fun j_ s X => match j_ with | 0 => Below U.heap.size U X ∧ (FmI U.heap.size k x nn (ff) X) ∧ (Saved (fun b => (x t).ownBlock = some b ∨ (x u).ownBlock = some b) V X) ∧ (X.heap[g2]? = some (.cells (rsC (x t) (x u)) 69)) | 1 => Below U.heap.size U X ∧ (FmI U.heap.size k x nn (ff) X) ∧ (Saved (fun b => (x t).ownBlock = some b ∨ (x u).ownBlock = some b) V X) ∧ (X.heap[g2]? = some (.cells (rsC (x t) (x u)) 69)) | 2 => Below U.heap.size U X ∧ (FmI U.heap.size k x nn (ff) X) ∧ (Saved (fun b => (x t).ownBlock = some b ∨ (x u).ownBlock = some b) V X) ∧ (X.heap[g2]? = some (.cells (rsC (x t) (x u)) 69)) | 3 => Below U.heap.size U X ∧ (FmI U.heap.size k x nn (ff) X) ∧ (Saved (fun b => (x t).ownBlock = some b ∨ (x u).ownBlock = some b) V X) ∧ (X.heap[g2]? = some (.cells (rsC (x t) (x u)) 69)) | 4 => Below U.heap.size U X ∧ (FmI U.heap.size k x nn (ff) X) ∧ (Saved (fun b => (x t).ownBlock = some b ∨ (x u).ownBlock = some b) V X) ∧ (X.heap[g2]? = some (.cells (rsC (x t) (x u)) 69)) | 5 => Below U.heap.size U X ∧ (FmI U.heap.size k x nn (ff) X) ∧ (Saved (fun b => (x t).ownBlock = some b ∨ (x u).ownBlock = some b) V X) ∧ (X.heap[g2]? = some (.cells (rsC (x t) (x u)) 69)) | _ => Below U.heap.size U X ∧ (FmI U.heap.size k x nn (ff) X) ∧ (Saved (fun b => (x t).ownBlock = some b ∨ (x u).ownBlock = some b) V X) ∧ (X.heap[g2]? = some (.cells (rsC (x t) (x u)) 69))) (fun s => fun i_ => match i_ with | 0 => .pointer (some ⟨g2, 1, none⟩) | 1 => x u | 2 => .int .i64 ((j : Nat) : Int) | 3 => .pointer (some ⟨gu, 0 + j, none⟩) | 4 => .int .i64 ((p : Nat) : Int) | 5 => .int .i64 ((p : Nat) : Int) | _ => undef) () A.1 (by kernel_rfl) (by decide) (by decide) ⟨BB, FM, FXs, F2⟩ ?_ ?_
  · intro i_ hi_ s a X hf hv hn hS
    match i_, hi_ with
    | 0, _ => exact stepV rfl rfl (execFldRs1 rfl ((hf 2 (by decide)).trans t2)) ⟨s, ⟨_, rfl, rfl⟩, hS, fun _ _ => rfl⟩
    | 1, _ => exact stepV rfl rfl (execLdLI (v := x u) rfl (hv 0 (by omega) _ rfl _ rfl) (rs_at1 hS.2.2.2)) ⟨s, ⟨_, rfl, rfl⟩, hS, fun _ _ => rfl⟩
    | 2, _ => exact stepV rfl rfl (execMvB rfl ((hf 1 (by decide)).trans t1)) ⟨s, ⟨_, rfl, rfl⟩, hS, fun _ _ => rfl⟩
    | 3, _ => exact stepV rfl rfl (execIdxN (k := j) rfl ((hv 1 (by omega) _ rfl _ rfl).trans eu) (hv 2 (by omega) _ rfl _ rfl) hju) ⟨s, ⟨_, rfl, rfl⟩, hS, fun _ _ => rfl⟩
    | 4, _ => exact stepV rfl rfl (execLd3 rfl (hv 3 (by omega) _ rfl _ rfl) ((hS.2.1.cell hu eu hju).1.trans (by rw [hp]))) ⟨s, ⟨_, rfl, rfl⟩, hS, fun _ _ => rfl⟩
    | 5, _ => exact stepV rfl rfl (execAsgB rfl (hv 4 (by omega) _ rfl _ rfl)) ⟨s, ⟨_, rfl, rfl⟩, hS, fun _ _ => rfl⟩
    | k_ + 6, h_ => exact absurd h_ (by simp)
  rintro _ a X1 h1 h2 h3 h4 hS
  clear BB
  clear FM
  clear FXs
  clear F2
  replace hS : Below U.heap.size U X1 ∧ (FmI U.heap.size k x nn (ff) X1) ∧ (Saved (fun b => (x t).ownBlock = some b ∨ (x u).ownBlock = some b) V X1) ∧ (X1.heap[g2]? = some (.cells (rsC (x t) (x u)) 69)) := hS
  obtain ⟨BB, FM, FXs, F2⟩ := hS
  replace t1 := (h3 1 (by decide)).trans t1
  replace t2 := (h3 2 (by decide)).trans t2
  have t5 : a.eval (.tmp 5) = .int .i64 ((p : Nat) : Int) := h4 5 _ rfl _ rfl
  replace A := (⟨h1, h2.trans A.2⟩ : a.tmps.size = 26 ∧ a.defers = [])
  clear h1 h2 h3 h4
  clear t4
  refine wp_seq ?_
  refine wp_region_sq (σ := Unit) 26 [(0, 11), (1, 12), (2, 13), (3, 14), (4, 15), (5, 16), (6, 17)] (fun j_ s X => match j_ with | 0 => Below U.heap.size U X ∧ (FmI U.heap.size k x nn (ff) X) ∧ (Saved (fun b => (x t).ownBlock = some b ∨ (x u).ownBlock = some b) V X) ∧ (X.heap[g2]? = some (.cells (rsC (x t) (x u)) 69)) | 1 => Below U.heap.size U X ∧ (FmI U.heap.size k x nn (ff) X) ∧ (Saved (fun b => (x t).ownBlock = some b ∨ (x u).ownBlock = some b) V X) ∧ (X.heap[g2]? = some (.cells (rsC (x t) (x u)) 69)) | 2 => Below U.heap.size U X ∧ (FmI U.heap.size k x nn (ff) X) ∧ (Saved (fun b => (x t).ownBlock = some b ∨ (x u).ownBlock = some b) V X) ∧ (X.heap[g2]? = some (.cells (rsC (x t) (x u)) 69)) | 3 => Below U.heap.size U X ∧ (FmI U.heap.size k x nn (ff) X) ∧ (Saved (fun b => (x t).ownBlock = some b ∨ (x u).ownBlock = some b) V X) ∧ (X.heap[g2]? = some (.cells (rsC (x t) (x u)) 69)) | 4 => Below U.heap.size U X ∧ (FmI U.heap.size k x nn (ff) X) ∧ (Saved (fun b => (x t).ownBlock = some b ∨ (x u).ownBlock = some b) V X) ∧ (X.heap[g2]? = some (.cells (rsC (x t) (x u)) 69)) | 5 => Below U.heap.size U X ∧ (FmI U.heap.size k x nn (ff) X) ∧ (Saved (fun b => (x t).ownBlock = some b ∨ (x u).ownBlock = some b) V X) ∧ (X.heap[g2]? = some (.cells (rsC (x t) (x u)) 69)) | 6 => Below U.heap.size U X ∧ (FmI U.heap.size k x nn (ff) X) ∧ (Saved (fun b => (x t).ownBlock = some b ∨ (x u).ownBlock = some b) V X) ∧ (X.heap[g2]? = some (.cells (rsC (x t) (x u)) 69)) | 7 => Below U.heap.size U X ∧ (FmI U.heap.size k x nn (ff) X) ∧ (Saved (fun b => (x t).ownBlock = some b ∨ (x u).ownBlock = some b) V X) ∧ (X.heap[g2]? = some (.cells (rsC (x t) (x u)) 69)) | _ => Below U.heap.size U X ∧ (Saved (fun b => (x t).ownBlock = some b ∨ (x u).ownBlock = some b) V X) ∧ (X.heap[g2]? = some (.cells (rsC (x t) (x u)) 69)) ∧ (FmI U.heap.size k x nn (updF ff u j ((p + 1 : Nat) : Int)) X)) (fun s => fun i_ => match i_ with | 0 => .pointer (some ⟨g2, 1, none⟩) | 1 => x u | 2 => .int .i64 ((j : Nat) : Int) | 3 => .pointer (some ⟨gu, 0 + j, none⟩) | 4 => .int .i64 ((p : Nat) : Int) | 5 => .int .i64 ((p + 1 : Nat) : Int) | 6 => .pointer (some ⟨gu, 0 + j, none⟩) | 7 => undef | _ => undef) () A.1 (by kernel_rfl) (by decide) (by decide) ⟨BB, FM, FXs, F2⟩ ?_ ?_
  · intro i_ hi_ s a X hf hv hn hS
    match i_, hi_ with
    | 0, _ => exact stepV rfl rfl (execFldRs1 rfl ((hf 2 (by decide)).trans t2)) ⟨s, ⟨_, rfl, rfl⟩, hS, fun _ _ => rfl⟩
    | 1, _ => exact stepV rfl rfl (execLdLI (v := x u) rfl (hv 0 (by omega) _ rfl _ rfl) (rs_at1 hS.2.2.2)) ⟨s, ⟨_, rfl, rfl⟩, hS, fun _ _ => rfl⟩
    | 2, _ => exact stepV rfl rfl (execMvB rfl ((hf 1 (by decide)).trans t1)) ⟨s, ⟨_, rfl, rfl⟩, hS, fun _ _ => rfl⟩
    | 3, _ => exact stepV rfl rfl (execIdxN (k := j) rfl ((hv 1 (by omega) _ rfl _ rfl).trans eu) (hv 2 (by omega) _ rfl _ rfl) hju) ⟨s, ⟨_, rfl, rfl⟩, hS, fun _ _ => rfl⟩
    | 4, _ => exact stepV rfl rfl (execLd3 rfl (hv 3 (by omega) _ rfl _ rfl) ((hS.2.1.cell hu eu hju).1.trans (by rw [hp]))) ⟨s, ⟨_, rfl, rfl⟩, hS, fun _ _ => rfl⟩
    | 5, _ => exact stepV rfl rfl (execAd8 (p := p) (q := 1) rfl (hv 4 (by omega) _ rfl _ rfl) rfl (by omega)) ⟨s, ⟨_, rfl, rfl⟩, hS, fun _ _ => rfl⟩
    | 6, _ => exact stepV rfl rfl (execIdxN (k := j) rfl ((hv 1 (by omega) _ rfl _ rfl).trans eu) (hv 2 (by omega) _ rfl _ rfl) hju) ⟨s, ⟨_, rfl, rfl⟩, hS, fun _ _ => rfl⟩
    | 7, _ =>
      obtain ⟨hc_, hf_⟩ := hS.2.1.cell hu eu hju
      refine stepS rfl rfl (execStI9 rfl (hv 6 (by omega) _ rfl _ rfl) (hv 5 (by omega) _ rfl _ rfl) hc_ hf_) ⟨s, ⟨_, rfl, rfl⟩, ⟨(hS.1).setCell hBu _, (hS.2.2.1.cell _ (Or.inr (Or.inr (by rw [eu]; rfl)))), ((Below.heap_setCell _ _ _ _ Fn.2).trans hS.2.2.2), hS.2.1.set hu eu _⟩, fun i hi => ?_⟩
      match i, hi with
      | 0, _ => rfl
      | 1, _ => rfl
      | 2, _ => rfl
      | 3, _ => rfl
      | 4, _ => rfl
      | 5, _ => rfl
      | 6, _ => rfl
      | n_ + 7, h_ => omega
    | k_ + 8, h_ => exact absurd h_ (by simp)
  rintro _ a X2 h1 h2 h3 h4 hS
  clear BB
  clear FM
  clear FXs
  clear F2
  replace hS : Below U.heap.size U X2 ∧ (Saved (fun b => (x t).ownBlock = some b ∨ (x u).ownBlock = some b) V X2) ∧ (X2.heap[g2]? = some (.cells (rsC (x t) (x u)) 69)) ∧ (FmI U.heap.size k x nn (updF ff u j ((p + 1 : Nat) : Int)) X2) := hS
  obtain ⟨BB, FXs, F2, FM1⟩ := hS
  replace t1 := (h3 1 (by decide)).trans t1
  replace t2 := (h3 2 (by decide)).trans t2
  replace t5 := (h3 5 (by decide)).trans t5
  replace A := (⟨h1, h2.trans A.2⟩ : a.tmps.size = 26 ∧ a.defers = [])
  clear h1 h2 h3 h4
  refine wp_seq ?_
  refine wp_region_sq (σ := Unit) 26 [(0, 18), (1, 19), (2, 20), (3, 21), (4, 22), (5, 23), (6, 24)] (fun j_ s X => match j_ with | 0 => Below U.heap.size U X ∧ (Saved (fun b => (x t).ownBlock = some b ∨ (x u).ownBlock = some b) V X) ∧ (X.heap[g2]? = some (.cells (rsC (x t) (x u)) 69)) ∧ (FmI U.heap.size k x nn (updF ff u j ((p + 1 : Nat) : Int)) X) | 1 => Below U.heap.size U X ∧ (Saved (fun b => (x t).ownBlock = some b ∨ (x u).ownBlock = some b) V X) ∧ (X.heap[g2]? = some (.cells (rsC (x t) (x u)) 69)) ∧ (FmI U.heap.size k x nn (updF ff u j ((p + 1 : Nat) : Int)) X) | 2 => Below U.heap.size U X ∧ (Saved (fun b => (x t).ownBlock = some b ∨ (x u).ownBlock = some b) V X) ∧ (X.heap[g2]? = some (.cells (rsC (x t) (x u)) 69)) ∧ (FmI U.heap.size k x nn (updF ff u j ((p + 1 : Nat) : Int)) X) | 3 => Below U.heap.size U X ∧ (Saved (fun b => (x t).ownBlock = some b ∨ (x u).ownBlock = some b) V X) ∧ (X.heap[g2]? = some (.cells (rsC (x t) (x u)) 69)) ∧ (FmI U.heap.size k x nn (updF ff u j ((p + 1 : Nat) : Int)) X) | 4 => Below U.heap.size U X ∧ (Saved (fun b => (x t).ownBlock = some b ∨ (x u).ownBlock = some b) V X) ∧ (X.heap[g2]? = some (.cells (rsC (x t) (x u)) 69)) ∧ (FmI U.heap.size k x nn (updF ff u j ((p + 1 : Nat) : Int)) X) | 5 => Below U.heap.size U X ∧ (Saved (fun b => (x t).ownBlock = some b ∨ (x u).ownBlock = some b) V X) ∧ (X.heap[g2]? = some (.cells (rsC (x t) (x u)) 69)) ∧ (FmI U.heap.size k x nn (updF ff u j ((p + 1 : Nat) : Int)) X) | 6 => Below U.heap.size U X ∧ (Saved (fun b => (x t).ownBlock = some b ∨ (x u).ownBlock = some b) V X) ∧ (X.heap[g2]? = some (.cells (rsC (x t) (x u)) 69)) ∧ (FmI U.heap.size k x nn (updF ff u j ((p + 1 : Nat) : Int)) X) | 7 => Below U.heap.size U X ∧ (Saved (fun b => (x t).ownBlock = some b ∨ (x u).ownBlock = some b) V X) ∧ (X.heap[g2]? = some (.cells (rsC (x t) (x u)) 69)) ∧ (FmI U.heap.size k x nn (updF ff u j ((p + 1 : Nat) : Int)) X) | _ => Below U.heap.size U X ∧ (Saved (fun b => (x t).ownBlock = some b ∨ (x u).ownBlock = some b) V X) ∧ (X.heap[g2]? = some (.cells (rsC (x t) (x u)) 69)) ∧ (FmI U.heap.size k x nn (updF (updF ff u j ((p + 1 : Nat) : Int)) t j ((q - 1 : Nat) : Int)) X)) (fun s => fun i_ => match i_ with | 0 => .pointer (some ⟨g2, 0, none⟩) | 1 => x t | 2 => .int .i64 ((j : Nat) : Int) | 3 => .pointer (some ⟨gt, 0 + j, none⟩) | 4 => .int .i64 ((q : Nat) : Int) | 5 => .int .i64 ((q - 1 : Nat) : Int) | 6 => .pointer (some ⟨gt, 0 + j, none⟩) | 7 => undef | _ => undef) () A.1 (by kernel_rfl) (by decide) (by decide) ⟨BB, FXs, F2, FM1⟩ ?_ ?_
  · intro i_ hi_ s a X hf hv hn hS
    match i_, hi_ with
    | 0, _ => exact stepV rfl rfl (execFldRs0 rfl ((hf 2 (by decide)).trans t2)) ⟨s, ⟨_, rfl, rfl⟩, hS, fun _ _ => rfl⟩
    | 1, _ => exact stepV rfl rfl (execLdLI (v := x t) rfl (hv 0 (by omega) _ rfl _ rfl) (rs_at0 hS.2.2.1)) ⟨s, ⟨_, rfl, rfl⟩, hS, fun _ _ => rfl⟩
    | 2, _ => exact stepV rfl rfl (execMvB rfl ((hf 1 (by decide)).trans t1)) ⟨s, ⟨_, rfl, rfl⟩, hS, fun _ _ => rfl⟩
    | 3, _ => exact stepV rfl rfl (execIdxN (k := j) rfl ((hv 1 (by omega) _ rfl _ rfl).trans et) (hv 2 (by omega) _ rfl _ rfl) hjt) ⟨s, ⟨_, rfl, rfl⟩, hS, fun _ _ => rfl⟩
    | 4, _ => exact stepV rfl rfl (execLd3 rfl (hv 3 (by omega) _ rfl _ rfl) ((hS.2.2.2.cell ht et hjt).1.trans (by rw [updF_o htu, hq]))) ⟨s, ⟨_, rfl, rfl⟩, hS, fun _ _ => rfl⟩
    | 5, _ => exact stepV rfl rfl (By8.execSubI (p := q) (q := 1) rfl (hv 4 (by omega) _ rfl _ rfl) rfl (by omega) (by omega)) ⟨s, ⟨_, rfl, rfl⟩, hS, fun _ _ => rfl⟩
    | 6, _ => exact stepV rfl rfl (execIdxN (k := j) rfl ((hv 1 (by omega) _ rfl _ rfl).trans et) (hv 2 (by omega) _ rfl _ rfl) hjt) ⟨s, ⟨_, rfl, rfl⟩, hS, fun _ _ => rfl⟩
    | 7, _ =>
      obtain ⟨hc_, hf_⟩ := hS.2.2.2.cell ht et hjt
      refine stepS rfl rfl (execStI9 rfl (hv 6 (by omega) _ rfl _ rfl) (hv 5 (by omega) _ rfl _ rfl) hc_ hf_) ⟨s, ⟨_, rfl, rfl⟩, ⟨(hS.1).setCell hBt _, (hS.2.1.cell _ (Or.inr (Or.inl (by rw [et]; rfl)))), ((Below.heap_setCell _ _ _ _ Fn.1).trans hS.2.2.1), hS.2.2.2.set ht et _⟩, fun i hi => ?_⟩
      match i, hi with
      | 0, _ => rfl
      | 1, _ => rfl
      | 2, _ => rfl
      | 3, _ => rfl
      | 4, _ => rfl
      | 5, _ => rfl
      | 6, _ => rfl
      | n_ + 7, h_ => omega
    | k_ + 8, h_ => exact absurd h_ (by simp)
  rintro _ a X3 h1 h2 h3 h4 hS
  clear BB
  clear FXs
  clear F2
  clear FM1
  replace hS : Below U.heap.size U X3 ∧ (Saved (fun b => (x t).ownBlock = some b ∨ (x u).ownBlock = some b) V X3) ∧ (X3.heap[g2]? = some (.cells (rsC (x t) (x u)) 69)) ∧ (FmI U.heap.size k x nn (updF (updF ff u j ((p + 1 : Nat) : Int)) t j ((q - 1 : Nat) : Int)) X3) := hS
  obtain ⟨BB, FXs, F2, FM2⟩ := hS
  replace t5 := (h3 5 (by decide)).trans t5
  replace A := (⟨h1, h2.trans A.2⟩ : a.tmps.size = 26 ∧ a.defers = [])
  clear h1 h2 h3 h4
  clear t1 t2
  clear F2
  refine wp_seq ?_
  refine wp_region_sq (σ := Unit) 26 [(0, 25), (1, 4)] (fun j_ s X => match j_ with | 0 => Below U.heap.size U X ∧ (Saved (fun b => (x t).ownBlock = some b ∨ (x u).ownBlock = some b) V X) ∧ (FmI U.heap.size k x nn (updF (updF ff u j ((p + 1 : Nat) : Int)) t j ((q - 1 : Nat) : Int)) X) | 1 => Below U.heap.size U X ∧ (Saved (fun b => (x t).ownBlock = some b ∨ (x u).ownBlock = some b) V X) ∧ (FmI U.heap.size k x nn (updF (updF ff u j ((p + 1 : Nat) : Int)) t j ((q - 1 : Nat) : Int)) X) | _ => Below U.heap.size U X ∧ (Saved (fun b => (x t).ownBlock = some b ∨ (x u).ownBlock = some b) V X) ∧ (FmI U.heap.size k x nn (updF (updF ff u j ((p + 1 : Nat) : Int)) t j ((q - 1 : Nat) : Int)) X)) (fun s => fun i_ => match i_ with | 0 => .int .i64 ((p : Nat) : Int) | 1 => .int .i64 ((p : Nat) : Int) | _ => undef) () A.1 (by kernel_rfl) (by decide) (by decide) ⟨BB, FXs, FM2⟩ ?_ ?_
  · intro i_ hi_ s a X hf hv hn hS
    match i_, hi_ with
    | 0, _ => exact stepV rfl rfl (execMvB rfl ((hf 5 (by decide)).trans t5)) ⟨s, ⟨_, rfl, rfl⟩, hS, fun _ _ => rfl⟩
    | 1, _ => exact stepV rfl rfl (execAsgB rfl (hv 0 (by omega) _ rfl _ rfl)) ⟨s, ⟨_, rfl, rfl⟩, hS, fun _ _ => rfl⟩
    | k_ + 2, h_ => exact absurd h_ (by simp)
  rintro _ a X4 h1 h2 h3 h4 hS
  clear BB
  clear FXs
  clear FM2
  replace hS : Below U.heap.size U X4 ∧ (Saved (fun b => (x t).ownBlock = some b ∨ (x u).ownBlock = some b) V X4) ∧ (FmI U.heap.size k x nn (updF (updF ff u j ((p + 1 : Nat) : Int)) t j ((q - 1 : Nat) : Int)) X4) := hS
  obtain ⟨BB, FXs, FM2⟩ := hS
  have t4 : a.eval (.tmp 4) = .int .i64 ((p : Nat) : Int) := h4 1 _ rfl _ rfl
  replace A := (⟨h1, h2.trans A.2⟩ : a.tmps.size = 26 ∧ a.defers = [])
  clear h1 h2 h3 h4
  clear t5
  refine wp_ret ?_
  refine bodyPost_ret (results_tmp rfl _ _ _) A.2 ⟨?_, FM2, FXs, BB⟩
  show Ending.returned (a.eval (.tmp 4)) = _
  rw [t4]
set_option maxRecDepth 100000 in
set_option maxHeartbeats 4000000 in
/-- The program's begin. -/
theorem pbegin (sf : Nat → Int) (J : Nat) (v : Value) (V : World) (hv : SliceI V v J sf) (hJ : J ≤ 64) (hok : okS sf J = true) :
    Calls Try.prog 33 #[v] V fun e w' => ∃ l x, e = .returned (.agg (rsC l x)) ∧ FmI V.heap.size 2 (x2 l x) (fun _ => J) (ffB sf) w' ∧ Below V.heap.size V w' := by
  obtain ⟨ia, ic, rfl, hic, -, hsh⟩ := id hv.shape
  have FI := hv
  go_enter Try.func33, Try.ntmps33
  refine wp_open (fun a => (a.tmps.size = 25 ∧ a.defers = []) ∧ a.eval (.tmp 0) = .slice ia J ic) ⟨⟨rfl, rfl⟩, rfl⟩ ?_
  rintro a ⟨A, t0⟩
  have BB : Below V.heap.size V V := Below.refl _ _
  refine wp_seq ?_
  refine wp_region_sq (σ := Nat) 25 [(0, 2)] (fun j_ s X => match j_ with | 0 => Below V.heap.size V X | _ => Below V.heap.size V X ∧ (X.heap[s]? = some (.cells (rsC (.slice none 0 0) (.slice none 0 0)) 69)) ∧ (V.heap.size ≤ s)) (fun s => fun i_ => match i_ with | 0 => .pointer (some ⟨s, 0, none⟩) | _ => undef) 0 A.1 (by kernel_rfl) (by decide) (by decide) (BB) ?_ ?_
  · intro i_ hi_ s a X hf hv hn hS
    match i_, hi_ with
    | 0, _ =>
      refine stepV rfl rfl (execAllRs rfl) ⟨X.heap.size, ⟨_, rfl, rfl⟩, ⟨(hS).trans (((belNew X _)).mono (hS).size), heapNew X _, (hS).size⟩, fun i hi => ?_⟩
      omega
    | k_ + 1, h_ => exact absurd h_ (by simp)
  rintro g2 a X0 h1 h2 h3 h4 hS
  clear BB
  replace hS : Below V.heap.size V X0 ∧ (X0.heap[g2]? = some (.cells (rsC (.slice none 0 0) (.slice none 0 0)) 69)) ∧ (V.heap.size ≤ g2) := hS
  obtain ⟨BB, F2, F2g⟩ := hS
  replace t0 := (h3 0 (by decide)).trans t0
  have t2 : a.eval (.tmp 2) = .pointer (some ⟨g2, 0, none⟩) := h4 0 _ rfl _ rfl
  replace A := (⟨h1, h2.trans A.2⟩ : a.tmps.size = 25 ∧ a.defers = [])
  clear h1 h2 h3 h4
  refine wp_seq ?_
  refine wp_region_sq (σ := Nat) 25 [(0, 5), (1, 6), (2, 7), (3, 3)] (fun j_ s X => match j_ with | 0 => Below V.heap.size V X ∧ (X.heap[g2]? = some (.cells (rsC (.slice none 0 0) (.slice none 0 0)) 69)) ∧ (V.heap.size ≤ g2) | 1 => Below V.heap.size V X ∧ (X.heap[g2]? = some (.cells (rsC (.slice none 0 0) (.slice none 0 0)) 69)) ∧ (V.heap.size ≤ g2) | 2 => Below V.heap.size V X ∧ (X.heap[g2]? = some (.cells (rsC (.slice none 0 0) (.slice none 0 0)) 69)) ∧ (V.heap.size ≤ g2) | 3 => Below V.heap.size V X ∧ (X.heap[g2]? = some (.cells (rsC (.slice none 0 0) (.slice none 0 0)) 69)) ∧ (V.heap.size ≤ g2) ∧ (X.ownsRow V.heap.size 3 1 (.slice (some ⟨s, 0, none⟩) J J) (J) (intsL (J) (fun j => if j < 0 then (sumN (gN sf) j : Int) else 0))) ∧ (V.heap.size ≤ s) ∧ (g2 ≠ s) | _ => Below V.heap.size V X ∧ (X.heap[g2]? = some (.cells (rsC (.slice none 0 0) (.slice none 0 0)) 69)) ∧ (V.heap.size ≤ g2) ∧ (X.ownsRow V.heap.size 3 1 (.slice (some ⟨s, 0, none⟩) J J) (J) (intsL (J) (fun j => if j < 0 then (sumN (gN sf) j : Int) else 0))) ∧ (V.heap.size ≤ s) ∧ (g2 ≠ s)) (fun s => fun i_ => match i_ with | 0 => .slice ia J ic | 1 => .int .i64 ((J : Nat) : Int) | 2 => .slice (some ⟨s, 0, none⟩) J J | 3 => .slice (some ⟨s, 0, none⟩) J J | _ => undef) 0 A.1 (by kernel_rfl) (by decide) (by decide) ⟨BB, F2, F2g⟩ ?_ ?_
  · intro i_ hi_ s a X hf hv hn hS
    match i_, hi_ with
    | 0, _ => exact stepV rfl rfl (execMvB rfl ((hf 0 (by decide)).trans t0)) ⟨s, ⟨_, rfl, rfl⟩, hS, fun _ _ => rfl⟩
    | 1, _ => exact stepV rfl rfl (execLenI (len := J) rfl (hv 0 (by omega) _ rfl _ rfl) ((FI.on hS.1)).shp) ⟨s, ⟨_, rfl, rfl⟩, hS, fun _ _ => rfl⟩
    | 2, _ =>
      refine stepV rfl rfl (execMkN rfl (hv 1 (by omega) _ rfl _ rfl) (hv 1 (by omega) _ rfl _ rfl) (by omega)) ⟨X.heap.size, ⟨_, rfl, rfl⟩, ⟨(hS.1).trans (((belNew X _)).mono (hS.1).size), (on9 hS.2.1 (belNew X _)), hS.2.2, ownD_base (own_mkZ X J _ (by omega) (fun j_ _ => if_neg (Nat.not_lt_zero _))) (hS.1).size, (hS.1).size, ne9 hS.2.1⟩, fun i hi => ?_⟩
      match i, hi with
      | 0, _ => rfl
      | 1, _ => rfl
      | n_ + 2, h_ => omega
    | 3, _ => exact stepV rfl rfl (execAsgB rfl (hv 2 (by omega) _ rfl _ rfl)) ⟨s, ⟨_, rfl, rfl⟩, hS, fun _ _ => rfl⟩
    | k_ + 4, h_ => exact absurd h_ (by simp)
  rintro g3 a X1 h1 h2 h3 h4 hS
  clear BB
  clear F2
  clear F2g
  replace hS : Below V.heap.size V X1 ∧ (X1.heap[g2]? = some (.cells (rsC (.slice none 0 0) (.slice none 0 0)) 69)) ∧ (V.heap.size ≤ g2) ∧ (X1.ownsRow V.heap.size 3 1 (.slice (some ⟨g3, 0, none⟩) J J) (J) (intsL (J) (fun j => if j < 0 then (sumN (gN sf) j : Int) else 0))) ∧ (V.heap.size ≤ g3) ∧ (g2 ≠ g3) := hS
  obtain ⟨BB, F2, F2g, FO, Fg3, Fne⟩ := hS
  replace t0 := (h3 0 (by decide)).trans t0
  replace t2 := (h3 2 (by decide)).trans t2
  have t3 : a.eval (.tmp 3) = .slice (some ⟨g3, 0, none⟩) J J := h4 3 _ rfl _ rfl
  replace A := (⟨h1, h2.trans A.2⟩ : a.tmps.size = 25 ∧ a.defers = [])
  clear h1 h2 h3 h4
  refine wp_seq ?_
  refine wp_seq ?_
  refine wp_region_sq (σ := Unit) 25 [(0, 8), (1, 9), (2, 10)] (fun j_ s X => match j_ with | 0 => Below V.heap.size V X ∧ (X.heap[g2]? = some (.cells (rsC (.slice none 0 0) (.slice none 0 0)) 69)) ∧ (X.ownsRow V.heap.size 3 1 (.slice (some ⟨g3, 0, none⟩) J J) (J) (intsL (J) (fun j => if j < 0 then (sumN (gN sf) j : Int) else 0))) | 1 => Below V.heap.size V X ∧ (X.heap[g2]? = some (.cells (rsC (.slice none 0 0) (.slice none 0 0)) 69)) ∧ (X.ownsRow V.heap.size 3 1 (.slice (some ⟨g3, 0, none⟩) J J) (J) (intsL (J) (fun j => if j < 0 then (sumN (gN sf) j : Int) else 0))) | 2 => Below V.heap.size V X ∧ (X.heap[g2]? = some (.cells (rsC (.slice none 0 0) (.slice none 0 0)) 69)) ∧ (X.ownsRow V.heap.size 3 1 (.slice (some ⟨g3, 0, none⟩) J J) (J) (intsL (J) (fun j => if j < 0 then (sumN (gN sf) j : Int) else 0))) | _ => Below V.heap.size V X ∧ (X.heap[g2]? = some (.cells (rsC (.slice none 0 0) (.slice none 0 0)) 69)) ∧ (X.ownsRow V.heap.size 3 1 (.slice (some ⟨g3, 0, none⟩) J J) (J) (intsL (J) (fun j => if j < 0 then (sumN (gN sf) j : Int) else 0)))) (fun s => fun i_ => match i_ with | 0 => .slice (some ⟨g3, 0, none⟩) J J | 1 => .int .i64 ((J : Nat) : Int) | 2 => .int .i64 ((0 : Nat) : Int) | _ => undef) () A.1 (by kernel_rfl) (by decide) (by decide) ⟨BB, F2, FO⟩ ?_ ?_
  · intro i_ hi_ s a X hf hv hn hS
    match i_, hi_ with
    | 0, _ => exact stepV rfl rfl (execMvB rfl ((hf 3 (by decide)).trans t3)) ⟨s, ⟨_, rfl, rfl⟩, hS, fun _ _ => rfl⟩
    | 1, _ => exact stepV rfl rfl (execLenI (len := J) rfl (hv 0 (by omega) _ rfl _ rfl) ⟨_, _, rfl⟩) ⟨s, ⟨_, rfl, rfl⟩, hS, fun _ _ => rfl⟩
    | 2, _ => exact stepV rfl rfl (execMvB rfl rfl) ⟨s, ⟨_, rfl, rfl⟩, hS, fun _ _ => rfl⟩
    | k_ + 3, h_ => exact absurd h_ (by simp)
  rintro _ a X2 h1 h2 h3 h4 hS
  clear BB
  clear F2
  clear FO
  replace hS : Below V.heap.size V X2 ∧ (X2.heap[g2]? = some (.cells (rsC (.slice none 0 0) (.slice none 0 0)) 69)) ∧ (X2.ownsRow V.heap.size 3 1 (.slice (some ⟨g3, 0, none⟩) J J) (J) (intsL (J) (fun j => if j < 0 then (sumN (gN sf) j : Int) else 0))) := hS
  obtain ⟨BB, F2, FO⟩ := hS
  replace t0 := (h3 0 (by decide)).trans t0
  replace t2 := (h3 2 (by decide)).trans t2
  replace t3 := (h3 3 (by decide)).trans t3
  have t8 : a.eval (.tmp 8) = .slice (some ⟨g3, 0, none⟩) J J := h4 0 _ rfl _ rfl
  have t9 : a.eval (.tmp 9) = .int .i64 ((J : Nat) : Int) := h4 1 _ rfl _ rfl
  have t10 : a.eval (.tmp 10) = .int .i64 ((0 : Nat) : Int) := h4 2 _ rfl _ rfl
  replace A := (⟨h1, h2.trans A.2⟩ : a.tmps.size = 25 ∧ a.defers = [])
  clear h1 h2 h3 h4
  clear t8
  refine wp_block ?_
  refine wp_loop (fun a W => ∃ (i : Nat), i ≤ J ∧ (a.tmps.size = 25 ∧ a.defers = []) ∧ a.eval (.tmp 0) = .slice ia J ic ∧ a.eval (.tmp 2) = .pointer (some ⟨g2, 0, none⟩) ∧ a.eval (.tmp 3) = .slice (some ⟨g3, 0, none⟩) J J ∧ a.eval (.tmp 9) = .int .i64 ((J : Nat) : Int) ∧ a.eval (.tmp 10) = .int .i64 ((i : Nat) : Int) ∧ Below V.heap.size V W ∧ (W.heap[g2]? = some (.cells (rsC (.slice none 0 0) (.slice none 0 0)) 69)) ∧ (W.ownsRow V.heap.size 3 1 (.slice (some ⟨g3, 0, none⟩) J J) (J) (intsL (J) (fun j => if j < i then (sumN (gN sf) j : Int) else 0)))) (fun a _ => J - (intOf (a.eval (.tmp 10))).toNat) ⟨0, Nat.zero_le _, A, t0, t2, t3, t9, t10, BB, F2, FO⟩ ?_
  clear A t0 t2 t3 t9 t10 BB F2 FO a
  rintro a XL3 ⟨i, hi, A, t0, t2, t3, t9, t10, BB, F2, FO⟩
  have esi := t10
  refine wp_seq ?_
  refine wp_region_sq (σ := Unit) 25 [(0, 11)] (fun j_ s X => match j_ with | 0 => Below V.heap.size V X ∧ (X.heap[g2]? = some (.cells (rsC (.slice none 0 0) (.slice none 0 0)) 69)) ∧ (X.ownsRow V.heap.size 3 1 (.slice (some ⟨g3, 0, none⟩) J J) (J) (intsL (J) (fun j => if j < i then (sumN (gN sf) j : Int) else 0))) | _ => Below V.heap.size V X ∧ (X.heap[g2]? = some (.cells (rsC (.slice none 0 0) (.slice none 0 0)) 69)) ∧ (X.ownsRow V.heap.size 3 1 (.slice (some ⟨g3, 0, none⟩) J J) (J) (intsL (J) (fun j => if j < i then (sumN (gN sf) j : Int) else 0)))) (fun s => fun i_ => match i_ with | 0 => .bool (decide (i < J)) | _ => undef) () A.1 (by kernel_rfl) (by decide) (by decide) ⟨BB, F2, FO⟩ ?_ ?_
  · intro i_ hi_ s a X hf hv hn hS
    match i_, hi_ with
    | 0, _ => exact stepV rfl rfl (execLtW (p := i) (q := J) rfl ((hf 10 (by decide)).trans t10) ((hf 9 (by decide)).trans t9)) ⟨s, ⟨_, rfl, rfl⟩, hS, fun _ _ => rfl⟩
    | k_ + 1, h_ => exact absurd h_ (by simp)
  rintro _ a X3 h1 h2 h3 h4 hS
  clear BB
  clear F2
  clear FO
  replace hS : Below V.heap.size V X3 ∧ (X3.heap[g2]? = some (.cells (rsC (.slice none 0 0) (.slice none 0 0)) 69)) ∧ (X3.ownsRow V.heap.size 3 1 (.slice (some ⟨g3, 0, none⟩) J J) (J) (intsL (J) (fun j => if j < i then (sumN (gN sf) j : Int) else 0))) := hS
  obtain ⟨BB, F2, FO⟩ := hS
  replace t0 := (h3 0 (by decide)).trans t0
  replace t2 := (h3 2 (by decide)).trans t2
  replace t3 := (h3 3 (by decide)).trans t3
  replace t9 := (h3 9 (by decide)).trans t9
  replace t10 := (h3 10 (by decide)).trans t10
  have t11 : a.eval (.tmp 11) = .bool (decide (i < J)) := h4 0 _ rfl _ rfl
  replace A := (⟨h1, h2.trans A.2⟩ : a.tmps.size = 25 ∧ a.defers = [])
  clear h1 h2 h3 h4
  refine wp_seq ?_
  by_cases lti : i < J
  · rw [decide_eq_true lti] at t11
    refine wp_cond_true t11 ?_
    refine wp_skip ?_
    clear t11
    refine wp_seq ?_
    refine wp_block ?_
    have cS : ∀ X, Below V.heap.size V X → Calls Try.prog 31 #[sliced ia 0 i ic 1] X fun e w' => e = .returned (.int .i64 ((sumN (gN sf) i : Nat) : Int)) ∧ Below X.heap.size X w' := fun X hX => by
      have h_ := SliceI.sub (FI.on hX) 0 i (Nat.zero_le _) (by omega)
      rw [Nat.sub_zero] at h_
      have hb_ := sumN_mono (r := gN sf) (show i ≤ J by omega)
      exact psum sf i _ X (h_.cg fun j _ => by rw [Nat.zero_add]) (by omega) (fun j hj => (okS_iff.1 hok j (by omega)).1) (by have := okS_sum hok; omega)
    refine wp_seq ?_
    refine wp_region_sq (σ := Unit) 25 [(0, 12), (1, 4)] (fun j_ s X => match j_ with | 0 => Below V.heap.size V X ∧ (X.heap[g2]? = some (.cells (rsC (.slice none 0 0) (.slice none 0 0)) 69)) ∧ (X.ownsRow V.heap.size 3 1 (.slice (some ⟨g3, 0, none⟩) J J) (J) (intsL (J) (fun j => if j < i then (sumN (gN sf) j : Int) else 0))) | 1 => Below V.heap.size V X ∧ (X.heap[g2]? = some (.cells (rsC (.slice none 0 0) (.slice none 0 0)) 69)) ∧ (X.ownsRow V.heap.size 3 1 (.slice (some ⟨g3, 0, none⟩) J J) (J) (intsL (J) (fun j => if j < i then (sumN (gN sf) j : Int) else 0))) | _ => Below V.heap.size V X ∧ (X.heap[g2]? = some (.cells (rsC (.slice none 0 0) (.slice none 0 0)) 69)) ∧ (X.ownsRow V.heap.size 3 1 (.slice (some ⟨g3, 0, none⟩) J J) (J) (intsL (J) (fun j => if j < i then (sumN (gN sf) j : Int) else 0)))) (fun s => fun i_ => match i_ with | 0 => .int .i64 ((i : Nat) : Int) | 1 => .int .i64 ((i : Nat) : Int) | _ => undef) () A.1 (by kernel_rfl) (by decide) (by decide) ⟨BB, F2, FO⟩ ?_ ?_
    · intro i_ hi_ s a X hf hv hn hS
      match i_, hi_ with
      | 0, _ => exact stepV rfl rfl (execMvB rfl ((hf 10 (by decide)).trans t10)) ⟨s, ⟨_, rfl, rfl⟩, hS, fun _ _ => rfl⟩
      | 1, _ => exact stepV rfl rfl (execAsgB rfl (hv 0 (by omega) _ rfl _ rfl)) ⟨s, ⟨_, rfl, rfl⟩, hS, fun _ _ => rfl⟩
      | k_ + 2, h_ => exact absurd h_ (by simp)
    rintro _ a X4 h1 h2 h3 h4 hS
    clear BB
    clear F2
    clear FO
    replace hS : Below V.heap.size V X4 ∧ (X4.heap[g2]? = some (.cells (rsC (.slice none 0 0) (.slice none 0 0)) 69)) ∧ (X4.ownsRow V.heap.size 3 1 (.slice (some ⟨g3, 0, none⟩) J J) (J) (intsL (J) (fun j => if j < i then (sumN (gN sf) j : Int) else 0))) := hS
    obtain ⟨BB, F2, FO⟩ := hS
    replace t0 := (h3 0 (by decide)).trans t0
    replace t2 := (h3 2 (by decide)).trans t2
    replace t3 := (h3 3 (by decide)).trans t3
    replace t9 := (h3 9 (by decide)).trans t9
    replace t10 := (h3 10 (by decide)).trans t10
    have t4 : a.eval (.tmp 4) = .int .i64 ((i : Nat) : Int) := h4 1 _ rfl _ rfl
    replace A := (⟨h1, h2.trans A.2⟩ : a.tmps.size = 25 ∧ a.defers = [])
    clear h1 h2 h3 h4
    refine wp_region_sq (σ := Unit) 25 [(0, 13), (1, 14), (2, 15), (3, 16), (4, 17), (5, 18), (6, 19)] (fun j_ s X => match j_ with | 0 => Below V.heap.size V X ∧ (X.heap[g2]? = some (.cells (rsC (.slice none 0 0) (.slice none 0 0)) 69)) ∧ (X.ownsRow V.heap.size 3 1 (.slice (some ⟨g3, 0, none⟩) J J) (J) (intsL (J) (fun j => if j < i then (sumN (gN sf) j : Int) else 0))) | 1 => Below V.heap.size V X ∧ (X.heap[g2]? = some (.cells (rsC (.slice none 0 0) (.slice none 0 0)) 69)) ∧ (X.ownsRow V.heap.size 3 1 (.slice (some ⟨g3, 0, none⟩) J J) (J) (intsL (J) (fun j => if j < i then (sumN (gN sf) j : Int) else 0))) | 2 => Below V.heap.size V X ∧ (X.heap[g2]? = some (.cells (rsC (.slice none 0 0) (.slice none 0 0)) 69)) ∧ (X.ownsRow V.heap.size 3 1 (.slice (some ⟨g3, 0, none⟩) J J) (J) (intsL (J) (fun j => if j < i then (sumN (gN sf) j : Int) else 0))) | 3 => Below V.heap.size V X ∧ (X.heap[g2]? = some (.cells (rsC (.slice none 0 0) (.slice none 0 0)) 69)) ∧ (X.ownsRow V.heap.size 3 1 (.slice (some ⟨g3, 0, none⟩) J J) (J) (intsL (J) (fun j => if j < i then (sumN (gN sf) j : Int) else 0))) | 4 => Below V.heap.size V X ∧ (X.heap[g2]? = some (.cells (rsC (.slice none 0 0) (.slice none 0 0)) 69)) ∧ (X.ownsRow V.heap.size 3 1 (.slice (some ⟨g3, 0, none⟩) J J) (J) (intsL (J) (fun j => if j < i then (sumN (gN sf) j : Int) else 0))) | 5 => Below V.heap.size V X ∧ (X.heap[g2]? = some (.cells (rsC (.slice none 0 0) (.slice none 0 0)) 69)) ∧ (X.ownsRow V.heap.size 3 1 (.slice (some ⟨g3, 0, none⟩) J J) (J) (intsL (J) (fun j => if j < i then (sumN (gN sf) j : Int) else 0))) | 6 => Below V.heap.size V X ∧ (X.heap[g2]? = some (.cells (rsC (.slice none 0 0) (.slice none 0 0)) 69)) ∧ (X.ownsRow V.heap.size 3 1 (.slice (some ⟨g3, 0, none⟩) J J) (J) (intsL (J) (fun j => if j < i then (sumN (gN sf) j : Int) else 0))) | 7 => Below V.heap.size V X ∧ (X.heap[g2]? = some (.cells (rsC (.slice none 0 0) (.slice none 0 0)) 69)) ∧ (X.ownsRow V.heap.size 3 1 (.slice (some ⟨g3, 0, none⟩) J J) (J) (intsL (J) (fun j => if j < i then (sumN (gN sf) j : Int) else 0))) | _ => Below V.heap.size V X ∧ (X.heap[g2]? = some (.cells (rsC (.slice none 0 0) (.slice none 0 0)) 69)) ∧ (X.ownsRow V.heap.size 3 1 (.slice (some ⟨g3, 0, none⟩) J J) (J) (intsL (J) (fun j => if j < (i + 1) then (sumN (gN sf) j : Int) else 0)))) (fun s => fun i_ => match i_ with | 0 => .slice (some ⟨g3, 0, none⟩) J J | 1 => .int .i64 ((i : Nat) : Int) | 2 => .slice ia J ic | 3 => .int .i64 ((i : Nat) : Int) | 4 => sliced ia 0 i ic 1 | 5 => .int .i64 ((sumN (gN sf) i : Nat) : Int) | 6 => .pointer (some ⟨g3, 0 + i, none⟩) | 7 => undef | _ => undef) () A.1 (by kernel_rfl) (by decide) (by decide) ⟨BB, F2, FO⟩ ?_ ?_
    · intro i_ hi_ s a X hf hv hn hS
      match i_, hi_ with
      | 0, _ => exact stepV rfl rfl (execMvB rfl ((hf 3 (by decide)).trans t3)) ⟨s, ⟨_, rfl, rfl⟩, hS, fun _ _ => rfl⟩
      | 1, _ => exact stepV rfl rfl (execMvB rfl ((hf 4 (by decide)).trans t4)) ⟨s, ⟨_, rfl, rfl⟩, hS, fun _ _ => rfl⟩
      | 2, _ => exact stepV rfl rfl (execMvB rfl ((hf 0 (by decide)).trans t0)) ⟨s, ⟨_, rfl, rfl⟩, hS, fun _ _ => rfl⟩
      | 3, _ => exact stepV rfl rfl (execMvB rfl ((hf 4 (by decide)).trans t4)) ⟨s, ⟨_, rfl, rfl⟩, hS, fun _ _ => rfl⟩
      | 4, _ => exact stepV rfl rfl (By8.execSlH rfl (hv 2 (by omega) _ rfl _ rfl) (hv 3 (by omega) _ rfl _ rfl) (sl_hA ia J ic i (by omega) X)) ⟨s, ⟨_, rfl, rfl⟩, hS, fun _ _ => rfl⟩
      | 5, _ => exact stepC rfl rfl (execCall1 Try.func31 (by kernel_rfl) (by kernel_rfl) rfl (hv 4 (by omega) _ rfl _ rfl)) (cS X hS.1) fun e w' hh => ⟨_, hh.1, s, ⟨_, rfl, rfl⟩, ⟨(hS.1).trans ((hh.2).mono (hS.1).size), (on9 hS.2.1 hh.2), (ownD_below hS.2.2 hh.2)⟩, fun _ _ => rfl⟩
      | 6, _ => exact stepV rfl rfl (execIdxN (k := i) rfl (hv 0 (by omega) _ rfl _ rfl) (hv 1 (by omega) _ rfl _ rfl) lti) ⟨s, ⟨_, rfl, rfl⟩, hS, fun _ _ => rfl⟩
      | 7, _ =>
        obtain ⟨hc_, hf_⟩ := own_cellI hS.2.2 lti
        refine stepS rfl rfl (execStI9 rfl (hv 6 (by omega) _ rfl _ rfl) (hv 5 (by omega) _ rfl _ rfl) hc_ hf_) ⟨s, ⟨_, rfl, rfl⟩, ⟨(hS.1).setCell Fg3 _, ((Below.heap_setCell _ _ _ _ Fne).trans hS.2.1), own_fill (F := fun j => (sumN (gN sf) j : Int)) hS.2.2 rfl⟩, fun i hi => ?_⟩
        match i, hi with
        | 0, _ => rfl
        | 1, _ => rfl
        | 2, _ => rfl
        | 3, _ => rfl
        | 4, _ => rfl
        | 5, _ => rfl
        | 6, _ => rfl
        | n_ + 7, h_ => omega
      | k_ + 8, h_ => exact absurd h_ (by simp)
    rintro _ a X5 h1 h2 h3 h4 hS
    clear BB
    clear F2
    clear FO
    replace hS : Below V.heap.size V X5 ∧ (X5.heap[g2]? = some (.cells (rsC (.slice none 0 0) (.slice none 0 0)) 69)) ∧ (X5.ownsRow V.heap.size 3 1 (.slice (some ⟨g3, 0, none⟩) J J) (J) (intsL (J) (fun j => if j < (i + 1) then (sumN (gN sf) j : Int) else 0))) := hS
    obtain ⟨BB, F2, FO2⟩ := hS
    replace t0 := (h3 0 (by decide)).trans t0
    replace t2 := (h3 2 (by decide)).trans t2
    replace t3 := (h3 3 (by decide)).trans t3
    replace t9 := (h3 9 (by decide)).trans t9
    replace t10 := (h3 10 (by decide)).trans t10
    replace A := (⟨h1, h2.trans A.2⟩ : a.tmps.size = 25 ∧ a.defers = [])
    clear h1 h2 h3 h4
    clear t4
    refine wp_region_sq (σ := Unit) 25 [(0, 20), (1, 10)] (fun j_ s X => match j_ with | 0 => Below V.heap.size V X ∧ (X.heap[g2]? = some (.cells (rsC (.slice none 0 0) (.slice none 0 0)) 69)) ∧ (X.ownsRow V.heap.size 3 1 (.slice (some ⟨g3, 0, none⟩) J J) (J) (intsL (J) (fun j => if j < (i + 1) then (sumN (gN sf) j : Int) else 0))) | 1 => Below V.heap.size V X ∧ (X.heap[g2]? = some (.cells (rsC (.slice none 0 0) (.slice none 0 0)) 69)) ∧ (X.ownsRow V.heap.size 3 1 (.slice (some ⟨g3, 0, none⟩) J J) (J) (intsL (J) (fun j => if j < (i + 1) then (sumN (gN sf) j : Int) else 0))) | _ => Below V.heap.size V X ∧ (X.heap[g2]? = some (.cells (rsC (.slice none 0 0) (.slice none 0 0)) 69)) ∧ (X.ownsRow V.heap.size 3 1 (.slice (some ⟨g3, 0, none⟩) J J) (J) (intsL (J) (fun j => if j < (i + 1) then (sumN (gN sf) j : Int) else 0)))) (fun s => fun i_ => match i_ with | 0 => .int .i64 ((i + 1 : Nat) : Int) | 1 => .int .i64 ((i + 1 : Nat) : Int) | _ => undef) () A.1 (by kernel_rfl) (by decide) (by decide) ⟨BB, F2, FO2⟩ ?_ ?_
    · intro i_ hi_ s a X hf hv hn hS
      match i_, hi_ with
      | 0, _ => exact stepV rfl rfl (execAd8 (p := i) (q := 1) rfl ((hn 1 (by omega) _ rfl _ rfl).trans t10) rfl (by omega)) ⟨s, ⟨_, rfl, rfl⟩, hS, fun _ _ => rfl⟩
      | 1, _ => exact stepV rfl rfl (execMvB rfl (hv 0 (by omega) _ rfl _ rfl)) ⟨s, ⟨_, rfl, rfl⟩, hS, fun _ _ => rfl⟩
      | k_ + 2, h_ => exact absurd h_ (by simp)
    rintro _ a X6 h1 h2 h3 h4 hS
    clear BB
    clear F2
    clear FO2
    replace hS : Below V.heap.size V X6 ∧ (X6.heap[g2]? = some (.cells (rsC (.slice none 0 0) (.slice none 0 0)) 69)) ∧ (X6.ownsRow V.heap.size 3 1 (.slice (some ⟨g3, 0, none⟩) J J) (J) (intsL (J) (fun j => if j < (i + 1) then (sumN (gN sf) j : Int) else 0))) := hS
    obtain ⟨BB, F2, FO2⟩ := hS
    replace t0 := (h3 0 (by decide)).trans t0
    replace t2 := (h3 2 (by decide)).trans t2
    replace t3 := (h3 3 (by decide)).trans t3
    replace t9 := (h3 9 (by decide)).trans t9
    replace t10 : a.eval (.tmp 10) = .int .i64 ((i + 1 : Nat) : Int) := h4 1 _ rfl _ rfl
    replace A := (⟨h1, h2.trans A.2⟩ : a.tmps.size = 25 ∧ a.defers = [])
    clear h1 h2 h3 h4
    exact ⟨⟨i + 1, lti, A, t0, t2, t3, t9, t10, BB, F2, FO2⟩, by show J - (intOf (a.eval (.tmp 10))).toNat < J - (intOf (Act.eval _ (.tmp 10))).toNat; rw [t10, esi]; show J - (i + 1) < J - i; omega⟩
  · rw [decide_eq_false lti] at t11
    refine wp_cond_false t11 ?_
    refine wp_exit ?_
    first | refine exit_in ?_ | refine exit_then (exit_in ?_) | refine exit_then (exit_then (exit_in ?_))
    clear t11 esi
    obtain rfl : i = J := by omega
    rw [intsL_congr (g := fun j => (sumN (gN sf) j : Int)) (fun j hj => if_pos hj)] at FO
    clear t9 t10
    refine wp_seq ?_
    refine wp_region_sq (σ := Value) 25 [(0, 21), (1, 22), (2, 23), (3, 24)] (fun j_ s X => match j_ with | 0 => Below V.heap.size V X ∧ (X.heap[g2]? = some (.cells (rsC (.slice none 0 0) (.slice none 0 0)) 69)) ∧ (X.ownsRow V.heap.size 3 1 (.slice (some ⟨g3, 0, none⟩) i i) (i) (intsL (i) (fun j => (sumN (gN sf) j : Int)))) | 1 => Below V.heap.size V X ∧ (X.heap[g2]? = some (.cells (rsC (.slice none 0 0) (.slice none 0 0)) 69)) ∧ (X.ownsRow V.heap.size 3 1 (.slice (some ⟨g3, 0, none⟩) i i) (i) (intsL (i) (fun j => (sumN (gN sf) j : Int)))) | 2 => Below V.heap.size V X ∧ (X.heap[g2]? = some (.cells (rsC (.slice none 0 0) (.slice none 0 0)) 69)) ∧ (X.ownsRow V.heap.size 3 1 (.slice (some ⟨g3, 0, none⟩) i i) (i) (intsL (i) (fun j => (sumN (gN sf) j : Int)))) ∧ (X.ownsRow V.heap.size 3 1 s (i) (intsL (i) (sf))) ∧ (∀ b, s.ownBlock = some b → b ≠ g3) ∧ (∃ g_ n_ c_, s = .slice g_ n_ c_) | 3 => Below V.heap.size V X ∧ (X.heap[g2]? = some (.cells (rsC (.slice none 0 0) (.slice none 0 0)) 69)) ∧ (X.ownsRow V.heap.size 3 1 (.slice (some ⟨g3, 0, none⟩) i i) (i) (intsL (i) (fun j => (sumN (gN sf) j : Int)))) ∧ (X.ownsRow V.heap.size 3 1 s (i) (intsL (i) (sf))) ∧ (∀ b, s.ownBlock = some b → b ≠ g3) ∧ (∃ g_ n_ c_, s = .slice g_ n_ c_) | 4 => Below V.heap.size V X ∧ (X.heap[g2]? = some (.cells (rsC (.slice none 0 0) (.slice none 0 0)) 69)) ∧ (X.ownsRow V.heap.size 3 1 (.slice (some ⟨g3, 0, none⟩) i i) (i) (intsL (i) (fun j => (sumN (gN sf) j : Int)))) ∧ (X.ownsRow V.heap.size 3 1 s (i) (intsL (i) (sf))) ∧ (∀ b, s.ownBlock = some b → b ≠ g3) ∧ (∃ g_ n_ c_, s = .slice g_ n_ c_) | _ => Below V.heap.size V X ∧ (X.ownsRow V.heap.size 3 1 (.slice (some ⟨g3, 0, none⟩) i i) (i) (intsL (i) (fun j => (sumN (gN sf) j : Int)))) ∧ (X.ownsRow V.heap.size 3 1 s (i) (intsL (i) (sf))) ∧ (∀ b, s.ownBlock = some b → b ≠ g3) ∧ (∃ g_ n_ c_, s = .slice g_ n_ c_) ∧ (X.heap[g2]? = some (.cells (rsC (s) (.slice (some ⟨g3, 0, none⟩) i i)) 69))) (fun s => fun i_ => match i_ with | 0 => .slice ia i ic | 1 => s | 2 => .slice (some ⟨g3, 0, none⟩) i i | 3 => .agg (rsC (s) (.slice (some ⟨g3, 0, none⟩) i i)) | 4 => undef | _ => undef) undef A.1 (by kernel_rfl) (by decide) (by decide) ⟨BB, F2, FO⟩ ?_ ?_
    · intro i_ hi_ s a X hf hv hn hS
      match i_, hi_ with
      | 0, _ => exact stepV rfl rfl (execMvB rfl ((hf 0 (by decide)).trans t0)) ⟨s, ⟨_, rfl, rfl⟩, hS, fun _ _ => rfl⟩
      | 1, _ =>
        refine stepC rfl rfl (execCall1 Try.func41 (by kernel_rfl) (by kernel_rfl) rfl (hv 0 (by omega) _ rfl _ rfl)) (pclone sf i _ X (FI.on hS.1) (by omega)) fun e w' hh => ?_
        obtain ⟨r_, he, hk, hb⟩ := hh
        refine ⟨_, he, r_, ⟨_, rfl, rfl⟩, ⟨(hS.1).trans ((hb).mono (hS.1).size), (on9 hS.2.1 hb), (ownD_below hS.2.2 hb), ownD_base hk (hS.1).size, fun b e q => by have a1 := (hk.lt b e).1; have a2 := (hS.2.2.lt g3 rfl).2; omega, shp3 hk⟩, fun i hi => ?_⟩
        match i, hi with
        | 0, _ => rfl
        | n_ + 1, h_ => omega
      | 2, _ => exact stepV rfl rfl (execMvB rfl ((hf 3 (by decide)).trans t3)) ⟨s, ⟨_, rfl, rfl⟩, hS, fun _ _ => rfl⟩
      | 3, _ => exact stepV rfl rfl (execBdRs rfl (hv 1 (by omega) _ rfl _ rfl) (hv 2 (by omega) _ rfl _ rfl) hS.2.2.2.2.2 ⟨_, _, _, rfl⟩) ⟨s, ⟨_, rfl, rfl⟩, hS, fun _ _ => rfl⟩
      | 4, _ =>
        refine stepS rfl rfl (execStRs rfl ((hf 2 (by decide)).trans t2) (hv 3 (by omega) _ rfl _ rfl) hS.2.1 hS.2.2.2.2.2 ⟨_, _, _, rfl⟩) ⟨s, ⟨_, rfl, rfl⟩, ⟨below4 hS.1 F2g _, own_setT hS.2.2.1 hS.2.1 (by decide), own_setT hS.2.2.2.1 hS.2.1 (by decide), hS.2.2.2.2.1, hS.2.2.2.2.2, setRow_heap _ _ _ _ _ _ hS.2.1⟩, fun i hi => ?_⟩
        match i, hi with
        | 0, _ => rfl
        | 1, _ => rfl
        | 2, _ => rfl
        | 3, _ => rfl
        | n_ + 4, h_ => omega
      | k_ + 5, h_ => exact absurd h_ (by simp)
    rintro v22 a X7 h1 h2 h3 h4 hS
    clear BB
    clear F2
    clear FO
    replace hS : Below V.heap.size V X7 ∧ (X7.ownsRow V.heap.size 3 1 (.slice (some ⟨g3, 0, none⟩) i i) (i) (intsL (i) (fun j => (sumN (gN sf) j : Int)))) ∧ (X7.ownsRow V.heap.size 3 1 v22 (i) (intsL (i) (sf))) ∧ (∀ b, v22.ownBlock = some b → b ≠ g3) ∧ (∃ g_ n_ c_, v22 = .slice g_ n_ c_) ∧ (X7.heap[g2]? = some (.cells (rsC (v22) (.slice (some ⟨g3, 0, none⟩) i i)) 69)) := hS
    obtain ⟨BB, FO, FL, Fd, Fh, F3⟩ := hS
    replace t2 := (h3 2 (by decide)).trans t2
    replace A := (⟨h1, h2.trans A.2⟩ : a.tmps.size = 25 ∧ a.defers = [])
    clear h1 h2 h3 h4
    clear t0 t3
    refine wp_ret ?_
    refine bodyPost_ret (results_cell9 (cs := rsC v22 (.slice (some ⟨g3, 0, none⟩) i i)) rfl _ _ g2 69 (0, 0) _ t2 F3 Try.underlying69 rfl (size_rs _ _)) A.2 ⟨v22, _, rfl, ⟨fun t ht => ?_, fun s t hs ht hst b e => ?_⟩, BB⟩
    · by_cases q : t = 0
      · subst q
        show World.ownsRow _ _ _ _ v22 i (intsL i fun j => ((gN sf j : Nat) : Int))
        rw [← intsL_congr (fun j hj => okS_nn hok hj)]
        exact FL
      · rw [show t = 1 by omega]
        exact FO
    · by_cases q : s = 0
      · have q2 : t = 1 := by omega
        subst q q2
        exact fun z => Fd b e (Option.some.inj z).symm
      · have q1 : s = 1 := by omega
        have q2 : t = 0 := by omega
        subst q1 q2
        exact fun z => Fd b z (Option.some.inj e).symm
end Go.Proofs.Ytdecmmcphcomhaa.Brd
