import Derived.Test.YtpclecbhfjalnaaG9k
namespace Go.Proofs.Ytpclecbhfjalnaa.Drw
open Go.RowKit Gf8 Aes By8 Cel Cf Tap
/- DrawBelows over any Impl. Written by tools/mkG9l.py. -/

section
variable {o : Oper} {a : Act} {w : World}
theorem execGtItD {x y : Operand} {p q : Int} (ho : o.op = .binOp .gtr 3 x y 3) (hx : a.eval x = .int .i64 p) (hy : a.eval y = .int .i64 q) (h : q < p) : (execOp a.eval o).run Try.prog w = .ok (.value (.bool true)) w := by
  unfold execOp
  simp only [ho, hx, hy]
  simp [go_sem, h]
theorem execGtIfD {x y : Operand} {p q : Int} (ho : o.op = .binOp .gtr 3 x y 3) (hx : a.eval x = .int .i64 p) (hy : a.eval y = .int .i64 q) (h : ¬ q < p) : (execOp a.eval o).run Try.prog w = .ok (.value (.bool false)) w := by
  unfold execOp
  simp only [ho, hx, hy]
  simp [go_sem]
  omega
end
set_option maxRecDepth 100000 in
set_option maxHeartbeats 8000000 in
theorem belows_from5 (I : Impl) (p : Nat → Nat) (l : Nat) (bs : Nat → Int) (n : Nat) (pv bv : Value) (V : World) (hp : SliceN V pv l p) (hl : l ≤ 140737488351232) (hb : SliceI V bv n bs) (hn17 : n ≤ 17592186044416) (s0 : Nat) (hs0 : s0 ≤ l) (W5 : World) (BW : Below V.heap.size V W5) (FP : SliceN W5 pv l p) (FI : SliceI W5 bv n bs)
    (a : Act) (A : a.tmps.size = 105 ∧ a.defers = []) (t0 : a.eval (.tmp 0) = pv) (t1 : a.eval (.tmp 1) = .int .i64 ((s0 : Nat) : Int)) (t2 : a.eval (.tmp 2) = bv) :
    (fromR 5 (Try.f3.body.getD .skip)).wp Try.prog (bodyPost Try.prog Try.f3 fun e w' => e = .returned (.bool true) ∧ Below V.heap.size V w') a W5 := by
  have hpb := hp.bytes
  have BB : Below W5.heap.size W5 W5 := Below.refl _ _
  refine wp_seq ?_
  refine wp_region_sq (σ := Value × Nat) 105 [(0, 29), (1, 30), (2, 31), (3, 32), (4, 28), (5, 33), (6, 34), (7, 35), (8, 8), (9, 7), (11, 9)] (fun j_ s X => match j_ with | 0 => Below W5.heap.size W5 X | 1 => Below W5.heap.size W5 X | 2 => Below W5.heap.size W5 X | 3 => Below W5.heap.size W5 X | 4 => Below W5.heap.size W5 X ∧ OwnM X (W5.heap.size) s.1 (s0) (fun j => p (0 + j)) | 5 => Below W5.heap.size W5 X ∧ OwnM X (W5.heap.size) s.1 (s0) (fun j => p (0 + j)) | 6 => Below W5.heap.size W5 X ∧ OwnM X (W5.heap.size) s.1 (s0) (fun j => p (0 + j)) | 7 => Below W5.heap.size W5 X ∧ OwnM X (W5.heap.size) s.1 (s0) (fun j => p (0 + j)) | 8 => Below W5.heap.size W5 X ∧ OwnM X (W5.heap.size) s.1 (s0) (fun j => p (0 + j)) | 9 => Below W5.heap.size W5 X ∧ OwnM X (W5.heap.size) s.1 (s0) (fun j => p (0 + j)) ∧ X.heap[s.2]? = some (.cells (tpC (fun _ => 0) 0 0) 26) ∧ (W5.heap.size ≤ s.2) | 10 => Below W5.heap.size W5 X ∧ OwnM X (W5.heap.size) s.1 (s0) (fun j => p (0 + j)) ∧ X.heap[s.2]? = some (.cells (tpC (fun _ => 0) 0 0) 26) ∧ (W5.heap.size ≤ s.2) | 11 => Below W5.heap.size W5 X ∧ OwnM X (W5.heap.size) s.1 (s0) (fun j => p (0 + j)) ∧ (W5.heap.size ≤ s.2) ∧ X.heap[s.2]? = some (.cells (tpC p l (0 + s0)) 26) | _ => Below W5.heap.size W5 X ∧ OwnM X (W5.heap.size) s.1 (s0) (fun j => p (0 + j)) ∧ (W5.heap.size ≤ s.2) ∧ X.heap[s.2]? = some (.cells (tpC p l (0 + s0)) 26)) (fun s => fun i_ => match i_ with | 0 => pv | 1 => .agg (tpC p l 0) | 2 => .int .i64 ((s0 : Nat) : Int) | 3 => .tuple #[s.1, .agg (tpC p l (0 + s0)), .int .i64 ((0 : Nat) : Int)] | 4 => .tuple #[s.1, .agg (tpC p l (0 + s0)), .int .i64 ((0 : Nat) : Int)] | 5 => s.1 | 6 => .agg (tpC p l (0 + s0)) | 7 => .int .i64 ((0 : Nat) : Int) | 8 => .pointer (some ⟨s.2, 0, none⟩) | 9 => s.1 | 10 => undef | 11 => .int .i64 ((0 : Nat) : Int) | _ => undef) (undef, 0) A.1 (by kernel_rfl) (by decide) (by decide) (BB) ?_ ?_
  · intro i_ hi_ s a X hf hv hn hS
    match i_, hi_ with
    | 0, _ => exact stepV rfl rfl (execMvB rfl ((hf 0 (by decide)).trans t0)) ⟨s, ⟨_, rfl, rfl⟩, hS, fun _ _ => rfl⟩
    | 1, _ => exact stepC rfl rfl (execCall1 Try.func10 (by kernel_rfl) (by kernel_rfl) rfl (hv 0 (by omega) _ rfl _ rfl)) (new_any p l _ X (FP.on hS)) fun e w' hh => ⟨_, hh.1, s, ⟨_, rfl, rfl⟩, (hS).trans ((hh.2).mono (hS).size), fun _ _ => rfl⟩
    | 2, _ => exact stepV rfl rfl (execMvB rfl ((hf 1 (by decide)).trans t1)) ⟨s, ⟨_, rfl, rfl⟩, hS, fun _ _ => rfl⟩
    | 3, _ =>
      refine stepC rfl rfl (execCall2 Try.func11 (by kernel_rfl) (by kernel_rfl) rfl (hv 1 (by omega) _ rfl _ rfl) (hv 2 (by omega) _ rfl _ rfl)) (take_ok p l 0 s0 X (by omega) (by omega) hpb) fun e w' hh => ?_
      obtain ⟨r_, he, hk, hb⟩ := hh
      refine ⟨_, he, (r_, s.2), ⟨_, rfl, rfl⟩, ⟨(hS).trans ((hb).mono (hS).size), hk.base (hS).size⟩, fun i hi => ?_⟩
      match i, hi with
      | 0, _ => rfl
      | 1, _ => rfl
      | 2, _ => rfl
      | n_ + 3, h_ => omega
    | 4, _ => exact stepV rfl rfl (execMvB rfl (hv 3 (by omega) _ rfl _ rfl)) ⟨s, ⟨_, rfl, rfl⟩, hS, fun _ _ => rfl⟩
    | 5, _ => exact stepV rfl rfl (execExtT rfl (hv 4 (by omega) _ rfl _ rfl) rfl) ⟨s, ⟨_, rfl, rfl⟩, hS, fun _ _ => rfl⟩
    | 6, _ => exact stepV rfl rfl (execExtT rfl (hv 4 (by omega) _ rfl _ rfl) rfl) ⟨s, ⟨_, rfl, rfl⟩, hS, fun _ _ => rfl⟩
    | 7, _ => exact stepV rfl rfl (execExtT rfl (hv 4 (by omega) _ rfl _ rfl) rfl) ⟨s, ⟨_, rfl, rfl⟩, hS, fun _ _ => rfl⟩
    | 8, _ =>
      refine stepV rfl rfl (execAllTp rfl (fun _ => 0)) ⟨(s.1, X.heap.size), ⟨_, rfl, rfl⟩, ⟨(hS.1).trans (((belNew X _)).mono (hS.1).size), (hS.2.on (belNew X _)), heapNew X _, (hS.1).size⟩, fun i hi => ?_⟩
      match i, hi with
      | 0, _ => rfl
      | 1, _ => rfl
      | 2, _ => rfl
      | 3, _ => rfl
      | 4, _ => rfl
      | 5, _ => rfl
      | 6, _ => rfl
      | 7, _ => rfl
      | n_ + 8, h_ => omega
    | 9, _ => exact stepV rfl rfl (execAsgB rfl (hv 5 (by omega) _ rfl _ rfl)) ⟨s, ⟨_, rfl, rfl⟩, hS, fun _ _ => rfl⟩
    | 10, _ => exact stepS rfl rfl (execStTp rfl (hv 8 (by omega) _ rfl _ rfl) (hv 6 (by omega) _ rfl _ rfl) hS.2.2.1 rfl) ⟨s, ⟨_, rfl, rfl⟩, ⟨below4 hS.1 hS.2.2.2 _, (hS.2.1.set hS.2.2.1 (by decide)), hS.2.2.2, setRow_heap _ _ _ _ _ _ hS.2.2.1⟩, fun _ _ => rfl⟩
    | 11, _ => exact stepV rfl rfl (execAsgB rfl (hv 7 (by omega) _ rfl _ rfl)) ⟨s, ⟨_, rfl, rfl⟩, hS, fun _ _ => rfl⟩
    | k_ + 12, h_ => exact absurd h_ (by simp)
  rintro ⟨v32, g8⟩ a X5 h1 h2 h3 h4 hS
  clear BB
  replace hS : Below W5.heap.size W5 X5 ∧ OwnM X5 (W5.heap.size) v32 (s0) (fun j => p (0 + j)) ∧ (W5.heap.size ≤ g8) ∧ X5.heap[g8]? = some (.cells (tpC p l (0 + s0)) 26) := hS
  obtain ⟨BB, Fv32, Fge8, F8⟩ := hS
  replace t0 := (h3 0 (by decide)).trans t0
  replace t1 := (h3 1 (by decide)).trans t1
  replace t2 := (h3 2 (by decide)).trans t2
  have t8 : a.eval (.tmp 8) = .pointer (some ⟨g8, 0, none⟩) := h4 8 _ rfl _ rfl
  have t9 : a.eval (.tmp 9) = .int .i64 ((0 : Nat) : Int) := h4 11 _ rfl _ rfl
  replace A := (⟨h1, h2.trans A.2⟩ : a.tmps.size = 105 ∧ a.defers = [])
  clear h1 h2 h3 h4
  refine wp_seq ?_
  refine wp_seq ?_
  refine wp_region_sq (σ := Unit) 105 [(0, 36), (1, 37)] (fun j_ s X => match j_ with | 0 => Below W5.heap.size W5 X ∧ OwnM X (W5.heap.size) v32 (s0) (fun j => p (0 + j)) ∧ (W5.heap.size ≤ g8) ∧ X.heap[g8]? = some (.cells (tpC p l (0 + s0)) 26) | 1 => Below W5.heap.size W5 X ∧ OwnM X (W5.heap.size) v32 (s0) (fun j => p (0 + j)) ∧ (W5.heap.size ≤ g8) ∧ X.heap[g8]? = some (.cells (tpC p l (0 + s0)) 26) | _ => Below W5.heap.size W5 X ∧ OwnM X (W5.heap.size) v32 (s0) (fun j => p (0 + j)) ∧ (W5.heap.size ≤ g8) ∧ X.heap[g8]? = some (.cells (tpC p l (0 + s0)) 26)) (fun s => fun i_ => match i_ with | 0 => .int .i64 ((0 : Nat) : Int) | 1 => .bool false | _ => undef) () A.1 (by kernel_rfl) (by decide) (by decide) ⟨BB, Fv32, Fge8, F8⟩ ?_ ?_
  · intro i_ hi_ s a X hf hv hn hS
    match i_, hi_ with
    | 0, _ => exact stepV rfl rfl (execMvB rfl ((hf 9 (by decide)).trans t9)) ⟨s, ⟨_, rfl, rfl⟩, hS, fun _ _ => rfl⟩
    | 1, _ => exact stepV rfl rfl (execDec (execNeE (p := 0) (q := 0) rfl (hv 0 (by omega) _ rfl _ rfl) rfl) (decide_eq_false (by omega))) ⟨s, ⟨_, rfl, rfl⟩, hS, fun _ _ => rfl⟩
    | k_ + 2, h_ => exact absurd h_ (by simp)
  rintro _ a X6 h1 h2 h3 h4 hS
  clear BB
  clear Fv32
  clear Fge8
  clear F8
  replace hS : Below W5.heap.size W5 X6 ∧ OwnM X6 (W5.heap.size) v32 (s0) (fun j => p (0 + j)) ∧ (W5.heap.size ≤ g8) ∧ X6.heap[g8]? = some (.cells (tpC p l (0 + s0)) 26) := hS
  obtain ⟨BB, Fv32, Fge8, F8⟩ := hS
  replace t0 := (h3 0 (by decide)).trans t0
  replace t1 := (h3 1 (by decide)).trans t1
  replace t2 := (h3 2 (by decide)).trans t2
  replace t8 := (h3 8 (by decide)).trans t8
  have t37 : a.eval (.tmp 37) = .bool false := h4 1 _ rfl _ rfl
  replace A := (⟨h1, h2.trans A.2⟩ : a.tmps.size = 105 ∧ a.defers = [])
  clear h1 h2 h3 h4
  clear t9
  refine wp_cond_false t37 ?_
  refine wp_skip ?_
  clear t37
  refine wp_seq ?_
  refine wp_region_sq (σ := Unit) 105 [(0, 38), (1, 10)] (fun j_ s X => match j_ with | 0 => Below W5.heap.size W5 X ∧ OwnM X (W5.heap.size) v32 (s0) (fun j => p (0 + j)) ∧ (W5.heap.size ≤ g8) ∧ X.heap[g8]? = some (.cells (tpC p l (0 + s0)) 26) | 1 => Below W5.heap.size W5 X ∧ OwnM X (W5.heap.size) v32 (s0) (fun j => p (0 + j)) ∧ (W5.heap.size ≤ g8) ∧ X.heap[g8]? = some (.cells (tpC p l (0 + s0)) 26) | _ => Below W5.heap.size W5 X ∧ OwnM X (W5.heap.size) v32 (s0) (fun j => p (0 + j)) ∧ (W5.heap.size ≤ g8) ∧ X.heap[g8]? = some (.cells (tpC p l (0 + s0)) 26)) (fun s => fun i_ => match i_ with | 0 => .int .i64 ((s0 : Nat) : Int) | 1 => .int .i64 ((s0 : Nat) : Int) | _ => undef) () A.1 (by kernel_rfl) (by decide) (by decide) ⟨BB, Fv32, Fge8, F8⟩ ?_ ?_
  · intro i_ hi_ s a X hf hv hn hS
    match i_, hi_ with
    | 0, _ => exact stepV rfl rfl (execMvB rfl ((hf 1 (by decide)).trans t1)) ⟨s, ⟨_, rfl, rfl⟩, hS, fun _ _ => rfl⟩
    | 1, _ => exact stepV rfl rfl (execAsgB rfl (hv 0 (by omega) _ rfl _ rfl)) ⟨s, ⟨_, rfl, rfl⟩, hS, fun _ _ => rfl⟩
    | k_ + 2, h_ => exact absurd h_ (by simp)
  rintro _ a X8 h1 h2 h3 h4 hS
  clear BB
  clear Fv32
  clear Fge8
  clear F8
  replace hS : Below W5.heap.size W5 X8 ∧ OwnM X8 (W5.heap.size) v32 (s0) (fun j => p (0 + j)) ∧ (W5.heap.size ≤ g8) ∧ X8.heap[g8]? = some (.cells (tpC p l (0 + s0)) 26) := hS
  obtain ⟨BB, Fv32, Fge8, F8⟩ := hS
  replace t0 := (h3 0 (by decide)).trans t0
  replace t2 := (h3 2 (by decide)).trans t2
  replace t8 := (h3 8 (by decide)).trans t8
  have t10 : a.eval (.tmp 10) = .int .i64 ((s0 : Nat) : Int) := h4 1 _ rfl _ rfl
  replace A := (⟨h1, h2.trans A.2⟩ : a.tmps.size = 105 ∧ a.defers = [])
  clear h1 h2 h3 h4
  clear t1
  refine wp_seq ?_
  refine wp_seq ?_
  refine wp_region_sq (σ := Unit) 105 [(0, 11)] (fun j_ s X => match j_ with | 0 => Below W5.heap.size W5 X ∧ OwnM X (W5.heap.size) v32 (s0) (fun j => p (0 + j)) ∧ (W5.heap.size ≤ g8) ∧ X.heap[g8]? = some (.cells (tpC p l (0 + s0)) 26) | _ => Below W5.heap.size W5 X ∧ OwnM X (W5.heap.size) v32 (s0) (fun j => p (0 + j)) ∧ (W5.heap.size ≤ g8) ∧ X.heap[g8]? = some (.cells (tpC p l (0 + s0)) 26)) (fun s => fun i_ => match i_ with | 0 => .int .i64 ((0 : Nat) : Int) | _ => undef) () A.1 (by kernel_rfl) (by decide) (by decide) ⟨BB, Fv32, Fge8, F8⟩ ?_ ?_
  · intro i_ hi_ s a X hf hv hn hS
    match i_, hi_ with
    | 0, _ => exact stepV rfl rfl (execAsgB rfl rfl) ⟨s, ⟨_, rfl, rfl⟩, hS, fun _ _ => rfl⟩
    | k_ + 1, h_ => exact absurd h_ (by simp)
  rintro _ a X9 h1 h2 h3 h4 hS
  clear BB
  clear Fv32
  clear Fge8
  clear F8
  replace hS : Below W5.heap.size W5 X9 ∧ OwnM X9 (W5.heap.size) v32 (s0) (fun j => p (0 + j)) ∧ (W5.heap.size ≤ g8) ∧ X9.heap[g8]? = some (.cells (tpC p l (0 + s0)) 26) := hS
  obtain ⟨BB, Fv32, Fge8, F8⟩ := hS
  replace t0 := (h3 0 (by decide)).trans t0
  replace t2 := (h3 2 (by decide)).trans t2
  replace t8 := (h3 8 (by decide)).trans t8
  replace t10 := (h3 10 (by decide)).trans t10
  have t11 : a.eval (.tmp 11) = .int .i64 ((0 : Nat) : Int) := h4 0 _ rfl _ rfl
  replace A := (⟨h1, h2.trans A.2⟩ : a.tmps.size = 105 ∧ a.defers = [])
  clear h1 h2 h3 h4
  clear Fv32
  rw [Nat.zero_add] at F8
  refine wp_block ?_
  refine wp_loop (fun a W => ∃ (i at1 : Nat), i ≤ n ∧ at1 ≤ l ∧ (a.tmps.size = 105 ∧ a.defers = []) ∧ a.eval (.tmp 0) = pv ∧ a.eval (.tmp 2) = bv ∧ a.eval (.tmp 8) = .pointer (some ⟨g8, 0, none⟩) ∧ a.eval (.tmp 10) = .int .i64 ((at1 : Nat) : Int) ∧ a.eval (.tmp 11) = .int .i64 ((i : Nat) : Int) ∧ Below W5.heap.size W5 W ∧ W.heap[g8]? = some (.cells (tpC p l at1) 26)) (fun a _ => n - (intOf (a.eval (.tmp 11))).toNat) ⟨0, s0, Nat.zero_le _, hs0, A, t0, t2, t8, t10, t11, BB, F8⟩ ?_
  clear A t0 t2 t8 t10 t11 BB F8 a
  rintro a XL ⟨i, at1, hi, hat1, A, t0, t2, t8, t10, t11, BB, F8⟩
  have e11 := t11
  refine wp_seq ?_
  refine wp_seq ?_
  refine wp_region_sq (σ := Unit) 105 [(0, 39), (1, 40), (2, 41), (3, 42)] (fun j_ s X => match j_ with | 0 => Below W5.heap.size W5 X ∧ X.heap[g8]? = some (.cells (tpC p l at1) 26) ∧ (W5.heap.size ≤ g8) | 1 => Below W5.heap.size W5 X ∧ X.heap[g8]? = some (.cells (tpC p l at1) 26) ∧ (W5.heap.size ≤ g8) | 2 => Below W5.heap.size W5 X ∧ X.heap[g8]? = some (.cells (tpC p l at1) 26) ∧ (W5.heap.size ≤ g8) | 3 => Below W5.heap.size W5 X ∧ X.heap[g8]? = some (.cells (tpC p l at1) 26) ∧ (W5.heap.size ≤ g8) | _ => Below W5.heap.size W5 X ∧ X.heap[g8]? = some (.cells (tpC p l at1) 26) ∧ (W5.heap.size ≤ g8)) (fun s => fun i_ => match i_ with | 0 => .int .i64 ((i : Nat) : Int) | 1 => bv | 2 => .int .i64 ((n : Nat) : Int) | 3 => .bool (decide (i < n)) | _ => undef) () A.1 (by kernel_rfl) (by decide) (by decide) ⟨BB, F8, Fge8⟩ ?_ ?_
  · intro i_ hi_ s a X hf hv hn hS
    match i_, hi_ with
    | 0, _ => exact stepV rfl rfl (execMvB rfl ((hf 11 (by decide)).trans t11)) ⟨s, ⟨_, rfl, rfl⟩, hS, fun _ _ => rfl⟩
    | 1, _ => exact stepV rfl rfl (execMvB rfl ((hf 2 (by decide)).trans t2)) ⟨s, ⟨_, rfl, rfl⟩, hS, fun _ _ => rfl⟩
    | 2, _ => exact stepV rfl rfl (execLenI (len := n) rfl (hv 1 (by omega) _ rfl _ rfl) ((FI.on hS.1)).shp) ⟨s, ⟨_, rfl, rfl⟩, hS, fun _ _ => rfl⟩
    | 3, _ => exact stepV rfl rfl (execLtW (p := i) (q := n) rfl (hv 0 (by omega) _ rfl _ rfl) (hv 2 (by omega) _ rfl _ rfl)) ⟨s, ⟨_, rfl, rfl⟩, hS, fun _ _ => rfl⟩
    | k_ + 4, h_ => exact absurd h_ (by simp)
  rintro _ a X10 h1 h2 h3 h4 hS
  clear BB
  clear F8
  clear Fge8
  replace hS : Below W5.heap.size W5 X10 ∧ X10.heap[g8]? = some (.cells (tpC p l at1) 26) ∧ (W5.heap.size ≤ g8) := hS
  obtain ⟨BB, F8, Fge8⟩ := hS
  replace t0 := (h3 0 (by decide)).trans t0
  replace t2 := (h3 2 (by decide)).trans t2
  replace t8 := (h3 8 (by decide)).trans t8
  replace t10 := (h3 10 (by decide)).trans t10
  replace t11 := (h3 11 (by decide)).trans t11
  have t42 : a.eval (.tmp 42) = .bool (decide (i < n)) := h4 3 _ rfl _ rfl
  replace A := (⟨h1, h2.trans A.2⟩ : a.tmps.size = 105 ∧ a.defers = [])
  clear h1 h2 h3 h4
  by_cases hlt : i < n
  · rw [decide_eq_true hlt] at t42
    refine wp_cond_true t42 ?_
    refine wp_skip ?_
    clear t42
    obtain ⟨ia, ic, ebv, -, -, hsh⟩ := id hb.shape
    obtain ⟨ib, io, eia, hib, hcell⟩ := hsh (by omega)
    rw [eia] at ebv
    have cI : ∀ X, Below V.heap.size V X → X.cell? ⟨ib, io + i, none⟩ = some (.int .i64 (bs i)) := fun X hX => by rw [cell_below hX hib]; exact hcell i hlt
    rw [ebv] at t2
    refine wp_seq ?_
    refine wp_block ?_
    refine wp_seq ?_
    refine wp_region_sq (σ := Unit) 105 [(0, 46), (1, 47), (2, 48), (3, 49), (4, 50), (5, 51), (6, 52), (7, 45), (8, 53), (9, 54), (10, 55), (11, 12), (12, 13), (13, 14)] (fun j_ s X => match j_ with | 0 => Below W5.heap.size W5 X ∧ X.heap[g8]? = some (.cells (tpC p l at1) 26) ∧ (W5.heap.size ≤ g8) | 1 => Below W5.heap.size W5 X ∧ X.heap[g8]? = some (.cells (tpC p l at1) 26) ∧ (W5.heap.size ≤ g8) | 2 => Below W5.heap.size W5 X ∧ X.heap[g8]? = some (.cells (tpC p l at1) 26) ∧ (W5.heap.size ≤ g8) | 3 => Below W5.heap.size W5 X ∧ X.heap[g8]? = some (.cells (tpC p l at1) 26) ∧ (W5.heap.size ≤ g8) | 4 => Below W5.heap.size W5 X ∧ X.heap[g8]? = some (.cells (tpC p l at1) 26) ∧ (W5.heap.size ≤ g8) | 5 => Below W5.heap.size W5 X ∧ X.heap[g8]? = some (.cells (tpC p l at1) 26) ∧ (W5.heap.size ≤ g8) | 6 => Below W5.heap.size W5 X ∧ X.heap[g8]? = some (.cells (tpC p l at1) 26) ∧ (W5.heap.size ≤ g8) | 7 => Below W5.heap.size W5 X ∧ X.heap[g8]? = some (.cells (tpC p l at1) 26) ∧ (W5.heap.size ≤ g8) | 8 => Below W5.heap.size W5 X ∧ X.heap[g8]? = some (.cells (tpC p l at1) 26) ∧ (W5.heap.size ≤ g8) | 9 => Below W5.heap.size W5 X ∧ X.heap[g8]? = some (.cells (tpC p l at1) 26) ∧ (W5.heap.size ≤ g8) | 10 => Below W5.heap.size W5 X ∧ X.heap[g8]? = some (.cells (tpC p l at1) 26) ∧ (W5.heap.size ≤ g8) | 11 => Below W5.heap.size W5 X ∧ X.heap[g8]? = some (.cells (tpC p l at1) 26) ∧ (W5.heap.size ≤ g8) | 12 => Below W5.heap.size W5 X ∧ X.heap[g8]? = some (.cells (tpC p l at1) 26) ∧ (W5.heap.size ≤ g8) | 13 => Below W5.heap.size W5 X ∧ X.heap[g8]? = some (.cells (tpC p l at1) 26) ∧ (W5.heap.size ≤ g8) | _ => Below W5.heap.size W5 X ∧ X.heap[g8]? = some (.cells (tpC p l at1) 26) ∧ (W5.heap.size ≤ g8)) (fun s => fun i_ => match i_ with | 0 => pv | 1 => .int .i64 ((at1 : Nat) : Int) | 2 => .slice (some ⟨ib, io, none⟩) n ic | 3 => .int .i64 ((i : Nat) : Int) | 4 => .pointer (some ⟨ib, io + i, none⟩) | 5 => .int .i64 (bs i) | 6 => .tuple #[.int .i64 ((dV p l at1 (bs i) : Nat) : Int), .int .i64 ((dN p l at1 (bs i) : Nat) : Int), .int .i64 ((dE p l at1 (bs i) : Nat) : Int)] | 7 => .tuple #[.int .i64 ((dV p l at1 (bs i) : Nat) : Int), .int .i64 ((dN p l at1 (bs i) : Nat) : Int), .int .i64 ((dE p l at1 (bs i) : Nat) : Int)] | 8 => .int .i64 ((dV p l at1 (bs i) : Nat) : Int) | 9 => .int .i64 ((dN p l at1 (bs i) : Nat) : Int) | 10 => .int .i64 ((dE p l at1 (bs i) : Nat) : Int) | 11 => .int .i64 ((dV p l at1 (bs i) : Nat) : Int) | 12 => .int .i64 ((dN p l at1 (bs i) : Nat) : Int) | 13 => .int .i64 ((dE p l at1 (bs i) : Nat) : Int) | _ => undef) () A.1 (by kernel_rfl) (by decide) (by decide) ⟨BB, F8, Fge8⟩ ?_ ?_
    · intro i_ hi_ s a X hf hv hn hS
      match i_, hi_ with
      | 0, _ => exact stepV rfl rfl (execMvB rfl ((hf 0 (by decide)).trans t0)) ⟨s, ⟨_, rfl, rfl⟩, hS, fun _ _ => rfl⟩
      | 1, _ => exact stepV rfl rfl (execMvB rfl ((hf 10 (by decide)).trans t10)) ⟨s, ⟨_, rfl, rfl⟩, hS, fun _ _ => rfl⟩
      | 2, _ => exact stepV rfl rfl (execMvB rfl ((hf 2 (by decide)).trans t2)) ⟨s, ⟨_, rfl, rfl⟩, hS, fun _ _ => rfl⟩
      | 3, _ => exact stepV rfl rfl (execMvB rfl ((hf 11 (by decide)).trans t11)) ⟨s, ⟨_, rfl, rfl⟩, hS, fun _ _ => rfl⟩
      | 4, _ => exact stepV rfl rfl (execIdxN (k := i) rfl (hv 2 (by omega) _ rfl _ rfl) (hv 3 (by omega) _ rfl _ rfl) hlt) ⟨s, ⟨_, rfl, rfl⟩, hS, fun _ _ => rfl⟩
      | 5, _ => exact stepV rfl rfl (execLd3 rfl (hv 4 (by omega) _ rfl _ rfl) (cI X (BW.trans ((hS.1).mono BW.size)))) ⟨s, ⟨_, rfl, rfl⟩, hS, fun _ _ => rfl⟩
      | 6, _ => exact stepC rfl rfl (execCall3 Try.func12 (by kernel_rfl) (by kernel_rfl) rfl (hv 0 (by omega) _ rfl _ rfl) (hv 1 (by omega) _ rfl _ rfl) (hv 5 (by omega) _ rfl _ rfl)) (rbelow_any p l at1 (bs i) _ X (FP.on hS.1) hl hat1) fun e w' hh => ⟨_, hh.1, s, ⟨_, rfl, rfl⟩, ⟨(hS.1).trans ((hh.2).mono (hS.1).size), (on9 hS.2.1 hh.2), hS.2.2⟩, fun _ _ => rfl⟩
      | 7, _ => exact stepV rfl rfl (execMvB rfl (hv 6 (by omega) _ rfl _ rfl)) ⟨s, ⟨_, rfl, rfl⟩, hS, fun _ _ => rfl⟩
      | 8, _ => exact stepV rfl rfl (execExtT rfl (hv 7 (by omega) _ rfl _ rfl) rfl) ⟨s, ⟨_, rfl, rfl⟩, hS, fun _ _ => rfl⟩
      | 9, _ => exact stepV rfl rfl (execExtT rfl (hv 7 (by omega) _ rfl _ rfl) rfl) ⟨s, ⟨_, rfl, rfl⟩, hS, fun _ _ => rfl⟩
      | 10, _ => exact stepV rfl rfl (execExtT rfl (hv 7 (by omega) _ rfl _ rfl) rfl) ⟨s, ⟨_, rfl, rfl⟩, hS, fun _ _ => rfl⟩
      | 11, _ => exact stepV rfl rfl (execAsgB rfl (hv 8 (by omega) _ rfl _ rfl)) ⟨s, ⟨_, rfl, rfl⟩, hS, fun _ _ => rfl⟩
      | 12, _ => exact stepV rfl rfl (execAsgB rfl (hv 9 (by omega) _ rfl _ rfl)) ⟨s, ⟨_, rfl, rfl⟩, hS, fun _ _ => rfl⟩
      | 13, _ => exact stepV rfl rfl (execAsgB rfl (hv 10 (by omega) _ rfl _ rfl)) ⟨s, ⟨_, rfl, rfl⟩, hS, fun _ _ => rfl⟩
      | k_ + 14, h_ => exact absurd h_ (by simp)
    rintro _ a X12 h1 h2 h3 h4 hS
    clear BB
    clear F8
    clear Fge8
    replace hS : Below W5.heap.size W5 X12 ∧ X12.heap[g8]? = some (.cells (tpC p l at1) 26) ∧ (W5.heap.size ≤ g8) := hS
    obtain ⟨BB, F8, Fge8⟩ := hS
    replace t0 := (h3 0 (by decide)).trans t0
    replace t2 := (h3 2 (by decide)).trans t2
    replace t8 := (h3 8 (by decide)).trans t8
    replace t10 := (h3 10 (by decide)).trans t10
    replace t11 := (h3 11 (by decide)).trans t11
    have t12 : a.eval (.tmp 12) = .int .i64 ((dV p l at1 (bs i) : Nat) : Int) := h4 11 _ rfl _ rfl
    have t13 : a.eval (.tmp 13) = .int .i64 ((dN p l at1 (bs i) : Nat) : Int) := h4 12 _ rfl _ rfl
    have t14 : a.eval (.tmp 14) = .int .i64 ((dE p l at1 (bs i) : Nat) : Int) := h4 13 _ rfl _ rfl
    replace A := (⟨h1, h2.trans A.2⟩ : a.tmps.size = 105 ∧ a.defers = [])
    clear h1 h2 h3 h4
    refine wp_seq ?_
    refine wp_region_stB (σ := Nat) 105 [(0, 57), (1, 58), (2, 59), (3, 60), (4, 61), (5, 62), (6, 56), (7, 63), (8, 64), (9, 65), (10, 16), (11, 15), (13, 17)] (fun l_ s X => Below W5.heap.size W5 X ∧ (X.heap[g8]? = some (.cells (tpC p l at1) 26)) ∧ ((W5.heap.size ≤ g8)) ∧ (l_ 10 = true → l_ 12 = false → X.heap[s]? = some (.cells (tpC (fun _ => 0) 0 0) 26)) ∧ (l_ 10 = true → (W5.heap.size ≤ s)) ∧ (l_ 10 = true → (g8 ≠ s)) ∧ (l_ 12 = true → X.heap[s]? = some (.cells (tpC p (if dE p l at1 (bs i) = 0 then l else 0) (dN p l at1 (bs i))) 26))) (fun s => fun i_ => match i_ with | 0 => .agg (tpC p l at1) | 1 => .slice (some ⟨ib, io, none⟩) n ic | 2 => .int .i64 ((i : Nat) : Int) | 3 => .pointer (some ⟨ib, io + i, none⟩) | 4 => .int .i64 (bs i) | 5 => .tuple #[.int .i64 ((dV p l at1 (bs i) : Nat) : Int), .agg (tpC p (if dE p l at1 (bs i) = 0 then l else 0) (dN p l at1 (bs i))), .int .i64 ((dE p l at1 (bs i) : Nat) : Int)] | 6 => .tuple #[.int .i64 ((dV p l at1 (bs i) : Nat) : Int), .agg (tpC p (if dE p l at1 (bs i) = 0 then l else 0) (dN p l at1 (bs i))), .int .i64 ((dE p l at1 (bs i) : Nat) : Int)] | 7 => .int .i64 ((dV p l at1 (bs i) : Nat) : Int) | 8 => .agg (tpC p (if dE p l at1 (bs i) = 0 then l else 0) (dN p l at1 (bs i))) | 9 => .int .i64 ((dE p l at1 (bs i) : Nat) : Int) | 10 => .pointer (some ⟨s, 0, none⟩) | 11 => .int .i64 ((dV p l at1 (bs i) : Nat) : Int) | 12 => undef | 13 => .int .i64 ((dE p l at1 (bs i) : Nat) : Int) | _ => undef) 0 (by kernel_rfl) (by kernel_rfl) A.1 (by kernel_rfl) (by decide) (by decide) ⟨(BB.drew), ((on9 F8 (Below.refl _ _).drew)), (Fge8), (fun q0_ q1_ => by cases q0_), (fun q0_ => by cases q0_), (fun q0_ => by cases q0_), (fun q0_ => by cases q0_)⟩ ?_ ?_
    · intro i_ hi_ l_ s a X hl_ hf hdep hl2 hcl hno hT
      have up : ∀ j x, x ≠ j → updB l_ j x = l_ x := fun j x hj => by unfold updB; simp [hj]
      match i_, hi_ with
      | 0, _ => exact stepV rfl rfl (execLdTp rfl ((hf 8 (by decide)).trans t8) hT.2.1) ⟨s, ⟨_, rfl, rfl⟩, ⟨hT.1, (hT.2.1), (hT.2.2.1), (fun q0_ q1_ => (hT.2.2.2.1 (by rw [up 0 10 (by decide)] at q0_; exact q0_) (by rw [up 0 12 (by decide)] at q1_; exact q1_))), (fun q0_ => (hT.2.2.2.2.1 (by rw [up 0 10 (by decide)] at q0_; exact q0_))), (fun q0_ => (hT.2.2.2.2.2.1 (by rw [up 0 10 (by decide)] at q0_; exact q0_))), (fun q0_ => absurd (hl_.symm.trans (hcl 12 _ rfl ((up 0 12 (by decide)).symm.trans q0_) 0 rfl)) (by decide))⟩, fun _ _ _ => rfl⟩
      | 1, _ => exact stepV rfl rfl (execMvB rfl ((hf 2 (by decide)).trans t2)) ⟨s, ⟨_, rfl, rfl⟩, ⟨hT.1, (hT.2.1), (hT.2.2.1), (fun q0_ q1_ => (hT.2.2.2.1 (by rw [up 1 10 (by decide)] at q0_; exact q0_) (by rw [up 1 12 (by decide)] at q1_; exact q1_))), (fun q0_ => (hT.2.2.2.2.1 (by rw [up 1 10 (by decide)] at q0_; exact q0_))), (fun q0_ => (hT.2.2.2.2.2.1 (by rw [up 1 10 (by decide)] at q0_; exact q0_))), (fun q0_ => absurd (hl_.symm.trans (hcl 12 _ rfl ((up 1 12 (by decide)).symm.trans q0_) 1 rfl)) (by decide))⟩, fun _ _ _ => rfl⟩
      | 2, _ => exact stepV rfl rfl (execMvB rfl ((hf 11 (by decide)).trans t11)) ⟨s, ⟨_, rfl, rfl⟩, ⟨hT.1, (hT.2.1), (hT.2.2.1), (fun q0_ q1_ => (hT.2.2.2.1 (by rw [up 2 10 (by decide)] at q0_; exact q0_) (by rw [up 2 12 (by decide)] at q1_; exact q1_))), (fun q0_ => (hT.2.2.2.2.1 (by rw [up 2 10 (by decide)] at q0_; exact q0_))), (fun q0_ => (hT.2.2.2.2.2.1 (by rw [up 2 10 (by decide)] at q0_; exact q0_))), (fun q0_ => absurd (hl_.symm.trans (hcl 12 _ rfl ((up 2 12 (by decide)).symm.trans q0_) 2 rfl)) (by decide))⟩, fun _ _ _ => rfl⟩
      | 3, _ => exact stepV rfl rfl (execIdxN (k := i) rfl (hdep _ rfl 1 rfl _ rfl _ rfl) (hdep _ rfl 2 rfl _ rfl _ rfl) hlt) ⟨s, ⟨_, rfl, rfl⟩, ⟨hT.1, (hT.2.1), (hT.2.2.1), (fun q0_ q1_ => (hT.2.2.2.1 (by rw [up 3 10 (by decide)] at q0_; exact q0_) (by rw [up 3 12 (by decide)] at q1_; exact q1_))), (fun q0_ => (hT.2.2.2.2.1 (by rw [up 3 10 (by decide)] at q0_; exact q0_))), (fun q0_ => (hT.2.2.2.2.2.1 (by rw [up 3 10 (by decide)] at q0_; exact q0_))), (fun q0_ => absurd (hl_.symm.trans (hcl 12 _ rfl ((up 3 12 (by decide)).symm.trans q0_) 3 rfl)) (by decide))⟩, fun _ _ _ => rfl⟩
      | 4, _ => exact stepV rfl rfl (execLd3 rfl (hdep _ rfl 3 rfl _ rfl _ rfl) (cI X (BW.trans ((hT.1).mono BW.size)))) ⟨s, ⟨_, rfl, rfl⟩, ⟨hT.1, (hT.2.1), (hT.2.2.1), (fun q0_ q1_ => (hT.2.2.2.1 (by rw [up 4 10 (by decide)] at q0_; exact q0_) (by rw [up 4 12 (by decide)] at q1_; exact q1_))), (fun q0_ => (hT.2.2.2.2.1 (by rw [up 4 10 (by decide)] at q0_; exact q0_))), (fun q0_ => (hT.2.2.2.2.2.1 (by rw [up 4 10 (by decide)] at q0_; exact q0_))), (fun q0_ => absurd (hl_.symm.trans (hcl 12 _ rfl ((up 4 12 (by decide)).symm.trans q0_) 4 rfl)) (by decide))⟩, fun _ _ _ => rfl⟩
      | 5, _ => exact stepC rfl rfl (execCall2 Try.func13 (by kernel_rfl) (by kernel_rfl) rfl (hdep _ rfl 0 rfl _ rfl _ rfl) (hdep _ rfl 4 rfl _ rfl _ rfl)) (I.below p l at1 (bs i) X (by omega) (by omega) hpb) fun e w' hh => ⟨_, hh.1, s, ⟨_, rfl, rfl⟩, ⟨hT.1.trans (hh.2.mono hT.1.size), ((on9 hT.2.1 hh.2)), (hT.2.2.1), (fun q0_ q1_ => (on9 (hT.2.2.2.1 (by rw [up 5 10 (by decide)] at q0_; exact q0_) (by rw [up 5 12 (by decide)] at q1_; exact q1_)) hh.2)), (fun q0_ => (hT.2.2.2.2.1 (by rw [up 5 10 (by decide)] at q0_; exact q0_))), (fun q0_ => (hT.2.2.2.2.2.1 (by rw [up 5 10 (by decide)] at q0_; exact q0_))), (fun q0_ => absurd (hl_.symm.trans (hcl 12 _ rfl ((up 5 12 (by decide)).symm.trans q0_) 5 rfl)) (by decide))⟩, fun _ _ _ => rfl⟩
      | 6, _ => exact stepV rfl rfl (execMvB rfl (hdep _ rfl 5 rfl _ rfl _ rfl)) ⟨s, ⟨_, rfl, rfl⟩, ⟨hT.1, (hT.2.1), (hT.2.2.1), (fun q0_ q1_ => (hT.2.2.2.1 (by rw [up 6 10 (by decide)] at q0_; exact q0_) (by rw [up 6 12 (by decide)] at q1_; exact q1_))), (fun q0_ => (hT.2.2.2.2.1 (by rw [up 6 10 (by decide)] at q0_; exact q0_))), (fun q0_ => (hT.2.2.2.2.2.1 (by rw [up 6 10 (by decide)] at q0_; exact q0_))), (fun q0_ => absurd (hl_.symm.trans (hcl 12 _ rfl ((up 6 12 (by decide)).symm.trans q0_) 6 rfl)) (by decide))⟩, fun _ _ _ => rfl⟩
      | 7, _ => exact stepV rfl rfl (execExtT rfl (hdep _ rfl 6 rfl _ rfl _ rfl) rfl) ⟨s, ⟨_, rfl, rfl⟩, ⟨hT.1, (hT.2.1), (hT.2.2.1), (fun q0_ q1_ => (hT.2.2.2.1 (by rw [up 7 10 (by decide)] at q0_; exact q0_) (by rw [up 7 12 (by decide)] at q1_; exact q1_))), (fun q0_ => (hT.2.2.2.2.1 (by rw [up 7 10 (by decide)] at q0_; exact q0_))), (fun q0_ => (hT.2.2.2.2.2.1 (by rw [up 7 10 (by decide)] at q0_; exact q0_))), (fun q0_ => absurd (hl_.symm.trans (hcl 12 _ rfl ((up 7 12 (by decide)).symm.trans q0_) 7 rfl)) (by decide))⟩, fun _ _ _ => rfl⟩
      | 8, _ => exact stepV rfl rfl (execExtT rfl (hdep _ rfl 6 rfl _ rfl _ rfl) rfl) ⟨s, ⟨_, rfl, rfl⟩, ⟨hT.1, (hT.2.1), (hT.2.2.1), (fun q0_ q1_ => (hT.2.2.2.1 (by rw [up 8 10 (by decide)] at q0_; exact q0_) (by rw [up 8 12 (by decide)] at q1_; exact q1_))), (fun q0_ => (hT.2.2.2.2.1 (by rw [up 8 10 (by decide)] at q0_; exact q0_))), (fun q0_ => (hT.2.2.2.2.2.1 (by rw [up 8 10 (by decide)] at q0_; exact q0_))), (fun q0_ => absurd (hl_.symm.trans (hcl 12 _ rfl ((up 8 12 (by decide)).symm.trans q0_) 8 rfl)) (by decide))⟩, fun _ _ _ => rfl⟩
      | 9, _ => exact stepV rfl rfl (execExtT rfl (hdep _ rfl 6 rfl _ rfl _ rfl) rfl) ⟨s, ⟨_, rfl, rfl⟩, ⟨hT.1, (hT.2.1), (hT.2.2.1), (fun q0_ q1_ => (hT.2.2.2.1 (by rw [up 9 10 (by decide)] at q0_; exact q0_) (by rw [up 9 12 (by decide)] at q1_; exact q1_))), (fun q0_ => (hT.2.2.2.2.1 (by rw [up 9 10 (by decide)] at q0_; exact q0_))), (fun q0_ => (hT.2.2.2.2.2.1 (by rw [up 9 10 (by decide)] at q0_; exact q0_))), (fun q0_ => (hT.2.2.2.2.2.2 (by rw [up 9 12 (by decide)] at q0_; exact q0_)))⟩, fun _ _ _ => rfl⟩
      | 10, _ =>
        refine stepV rfl rfl (execAllTp rfl (fun _ => 0)) ⟨X.heap.size, ⟨_, rfl, rfl⟩, ⟨hT.1.trans (((belNew X _)).mono hT.1.size), ((on9 hT.2.1 (belNew X _))), (hT.2.2.1), (fun _q0_ _q1_ => heapNew X _), (fun _q0_ => (hT.1).size), (fun _q0_ => ne9 hT.2.1), (fun q0_ => absurd (hl_.symm.trans (hcl 12 _ rfl ((up 10 12 (by decide)).symm.trans q0_) 10 rfl)) (by decide))⟩, fun i hi hli => ?_⟩
        match i, hi with
        | 0, _ => rfl
        | 1, _ => rfl
        | 2, _ => rfl
        | 3, _ => rfl
        | 4, _ => rfl
        | 5, _ => rfl
        | 6, _ => rfl
        | 7, _ => rfl
        | 8, _ => rfl
        | 9, _ => rfl
        | 10, _ => exact absurd (hl_.symm.trans hli) (by decide)
        | 11, _ => rfl
        | 12, _ => rfl
        | 13, _ => rfl
        | k_ + 14, h_ => exact absurd h_ (by simp)
      | 11, _ => exact stepV rfl rfl (execAsgB rfl (hdep _ rfl 7 rfl _ rfl _ rfl)) ⟨s, ⟨_, rfl, rfl⟩, ⟨hT.1, (hT.2.1), (hT.2.2.1), (fun q0_ q1_ => (hT.2.2.2.1 (by rw [up 11 10 (by decide)] at q0_; exact q0_) (by rw [up 11 12 (by decide)] at q1_; exact q1_))), (fun q0_ => (hT.2.2.2.2.1 (by rw [up 11 10 (by decide)] at q0_; exact q0_))), (fun q0_ => (hT.2.2.2.2.2.1 (by rw [up 11 10 (by decide)] at q0_; exact q0_))), (fun q0_ => absurd (hl_.symm.trans (hcl 12 _ rfl ((up 11 12 (by decide)).symm.trans q0_) 11 rfl)) (by decide))⟩, fun _ _ _ => rfl⟩
      | 12, _ => exact stepS rfl rfl (execStTp rfl (hdep _ rfl 10 rfl _ rfl _ rfl) (hdep _ rfl 8 rfl _ rfl _ rfl) (hT.2.2.2.1 (hl2 _ rfl 10 rfl) hl_) rfl) ⟨s, ⟨_, rfl, rfl⟩, ⟨below4 hT.1 (hT.2.2.2.2.1 (hl2 _ rfl 10 rfl)) _, ((by rw [setRow_other _ _ _ _ ((hT.2.2.2.2.2.1 (hl2 _ rfl 10 rfl)))]; exact hT.2.1)), (hT.2.2.1), (fun q0_ q1_ => absurd q1_ (by unfold updB; simp)), (fun q0_ => (hT.2.2.2.2.1 (by rw [up 12 10 (by decide)] at q0_; exact q0_))), (fun q0_ => (hT.2.2.2.2.2.1 (by rw [up 12 10 (by decide)] at q0_; exact q0_))), (fun _q0_ => setRow_heap _ _ _ _ _ _ (hT.2.2.2.1 (hl2 _ rfl 10 rfl) hl_))⟩, fun _ _ _ => rfl⟩
      | 13, _ => exact stepV rfl rfl (execAsgB rfl (hdep _ rfl 9 rfl _ rfl _ rfl)) ⟨s, ⟨_, rfl, rfl⟩, ⟨hT.1, (hT.2.1), (hT.2.2.1), (fun q0_ q1_ => absurd (q1_.symm.trans ((up 13 12 (by decide)).trans (hl2 _ rfl 12 rfl))) (by decide)), (fun q0_ => (hT.2.2.2.2.1 (by rw [up 13 10 (by decide)] at q0_; exact q0_))), (fun q0_ => (hT.2.2.2.2.2.1 (by rw [up 13 10 (by decide)] at q0_; exact q0_))), (fun q0_ => (hT.2.2.2.2.2.2 (by rw [up 13 12 (by decide)] at q0_; exact q0_)))⟩, fun _ _ _ => rfl⟩
      | k_ + 14, h_ => exact absurd h_ (by simp)
    rintro l_ g16 a X13 h1 h2 h3 h4 hall hT
    clear BB
    clear F8
    clear Fge8
    obtain ⟨BB, F8, Fge8, F16, Fge16, Fn16F8, F16s⟩ := hT
    replace F8 : X13.heap[g8]? = some (.cells (tpC p l at1) 26) := F8
    replace Fge8 : (W5.heap.size ≤ g8) := Fge8
    clear F16
    replace Fge16 : (W5.heap.size ≤ g16) := Fge16 (hall 10 (by decide))
    replace Fn16F8 : (g8 ≠ g16) := Fn16F8 (hall 10 (by decide))
    replace F16s : X13.heap[g16]? = some (.cells (tpC p (if dE p l at1 (bs i) = 0 then l else 0) (dN p l at1 (bs i))) 26) := F16s (hall 12 (by decide))
    clear hall
    replace t0 := (h3 0 (by decide)).trans t0
    replace t2 := (h3 2 (by decide)).trans t2
    replace t8 := (h3 8 (by decide)).trans t8
    replace t10 := (h3 10 (by decide)).trans t10
    replace t11 := (h3 11 (by decide)).trans t11
    replace t12 := (h3 12 (by decide)).trans t12
    replace t13 := (h3 13 (by decide)).trans t13
    replace t14 := (h3 14 (by decide)).trans t14
    have t15 : a.eval (.tmp 15) = .int .i64 ((dV p l at1 (bs i) : Nat) : Int) := h4 (11, 15) (by decide)
    have t16 : a.eval (.tmp 16) = .pointer (some ⟨g16, 0, none⟩) := h4 (10, 16) (by decide)
    have t17 : a.eval (.tmp 17) = .int .i64 ((dE p l at1 (bs i) : Nat) : Int) := h4 (13, 17) (by decide)
    replace A := (⟨h1, h2.trans A.2⟩ : a.tmps.size = 105 ∧ a.defers = [])
    clear h1 h2 h3 h4
    have F16 := F16s
    clear F16s
    refine wp_seq ?_
    refine wp_seq ?_
    refine wp_region_sq (σ := Unit) 105 [(0, 66), (1, 67), (2, 68), (3, 69), (4, 70), (5, 71), (6, 72), (7, 73), (8, 74), (9, 75), (10, 76), (11, 77), (12, 78), (13, 79)] (fun j_ s X => match j_ with | 0 => Below W5.heap.size W5 X ∧ X.heap[g8]? = some (.cells (tpC p l at1) 26) ∧ (W5.heap.size ≤ g8) ∧ (W5.heap.size ≤ g16) ∧ (g8 ≠ g16) ∧ X.heap[g16]? = some (.cells (tpC p (if dE p l at1 (bs i) = 0 then l else 0) (dN p l at1 (bs i))) 26) | 1 => Below W5.heap.size W5 X ∧ X.heap[g8]? = some (.cells (tpC p l at1) 26) ∧ (W5.heap.size ≤ g8) ∧ (W5.heap.size ≤ g16) ∧ (g8 ≠ g16) ∧ X.heap[g16]? = some (.cells (tpC p (if dE p l at1 (bs i) = 0 then l else 0) (dN p l at1 (bs i))) 26) | 2 => Below W5.heap.size W5 X ∧ X.heap[g8]? = some (.cells (tpC p l at1) 26) ∧ (W5.heap.size ≤ g8) ∧ (W5.heap.size ≤ g16) ∧ (g8 ≠ g16) ∧ X.heap[g16]? = some (.cells (tpC p (if dE p l at1 (bs i) = 0 then l else 0) (dN p l at1 (bs i))) 26) | 3 => Below W5.heap.size W5 X ∧ X.heap[g8]? = some (.cells (tpC p l at1) 26) ∧ (W5.heap.size ≤ g8) ∧ (W5.heap.size ≤ g16) ∧ (g8 ≠ g16) ∧ X.heap[g16]? = some (.cells (tpC p (if dE p l at1 (bs i) = 0 then l else 0) (dN p l at1 (bs i))) 26) | 4 => Below W5.heap.size W5 X ∧ X.heap[g8]? = some (.cells (tpC p l at1) 26) ∧ (W5.heap.size ≤ g8) ∧ (W5.heap.size ≤ g16) ∧ (g8 ≠ g16) ∧ X.heap[g16]? = some (.cells (tpC p (if dE p l at1 (bs i) = 0 then l else 0) (dN p l at1 (bs i))) 26) | 5 => Below W5.heap.size W5 X ∧ X.heap[g8]? = some (.cells (tpC p l at1) 26) ∧ (W5.heap.size ≤ g8) ∧ (W5.heap.size ≤ g16) ∧ (g8 ≠ g16) ∧ X.heap[g16]? = some (.cells (tpC p (if dE p l at1 (bs i) = 0 then l else 0) (dN p l at1 (bs i))) 26) | 6 => Below W5.heap.size W5 X ∧ X.heap[g8]? = some (.cells (tpC p l at1) 26) ∧ (W5.heap.size ≤ g8) ∧ (W5.heap.size ≤ g16) ∧ (g8 ≠ g16) ∧ X.heap[g16]? = some (.cells (tpC p (if dE p l at1 (bs i) = 0 then l else 0) (dN p l at1 (bs i))) 26) | 7 => Below W5.heap.size W5 X ∧ X.heap[g8]? = some (.cells (tpC p l at1) 26) ∧ (W5.heap.size ≤ g8) ∧ (W5.heap.size ≤ g16) ∧ (g8 ≠ g16) ∧ X.heap[g16]? = some (.cells (tpC p (if dE p l at1 (bs i) = 0 then l else 0) (dN p l at1 (bs i))) 26) | 8 => Below W5.heap.size W5 X ∧ X.heap[g8]? = some (.cells (tpC p l at1) 26) ∧ (W5.heap.size ≤ g8) ∧ (W5.heap.size ≤ g16) ∧ (g8 ≠ g16) ∧ X.heap[g16]? = some (.cells (tpC p (if dE p l at1 (bs i) = 0 then l else 0) (dN p l at1 (bs i))) 26) | 9 => Below W5.heap.size W5 X ∧ X.heap[g8]? = some (.cells (tpC p l at1) 26) ∧ (W5.heap.size ≤ g8) ∧ (W5.heap.size ≤ g16) ∧ (g8 ≠ g16) ∧ X.heap[g16]? = some (.cells (tpC p (if dE p l at1 (bs i) = 0 then l else 0) (dN p l at1 (bs i))) 26) | 10 => Below W5.heap.size W5 X ∧ X.heap[g8]? = some (.cells (tpC p l at1) 26) ∧ (W5.heap.size ≤ g8) ∧ (W5.heap.size ≤ g16) ∧ (g8 ≠ g16) ∧ X.heap[g16]? = some (.cells (tpC p (if dE p l at1 (bs i) = 0 then l else 0) (dN p l at1 (bs i))) 26) | 11 => Below W5.heap.size W5 X ∧ X.heap[g8]? = some (.cells (tpC p l at1) 26) ∧ (W5.heap.size ≤ g8) ∧ (W5.heap.size ≤ g16) ∧ (g8 ≠ g16) ∧ X.heap[g16]? = some (.cells (tpC p (if dE p l at1 (bs i) = 0 then l else 0) (dN p l at1 (bs i))) 26) | 12 => Below W5.heap.size W5 X ∧ X.heap[g8]? = some (.cells (tpC p l at1) 26) ∧ (W5.heap.size ≤ g8) ∧ (W5.heap.size ≤ g16) ∧ (g8 ≠ g16) ∧ X.heap[g16]? = some (.cells (tpC p (if dE p l at1 (bs i) = 0 then l else 0) (dN p l at1 (bs i))) 26) | 13 => Below W5.heap.size W5 X ∧ X.heap[g8]? = some (.cells (tpC p l at1) 26) ∧ (W5.heap.size ≤ g8) ∧ (W5.heap.size ≤ g16) ∧ (g8 ≠ g16) ∧ X.heap[g16]? = some (.cells (tpC p (if dE p l at1 (bs i) = 0 then l else 0) (dN p l at1 (bs i))) 26) | _ => Below W5.heap.size W5 X ∧ X.heap[g8]? = some (.cells (tpC p l at1) 26) ∧ (W5.heap.size ≤ g8) ∧ (W5.heap.size ≤ g16) ∧ (g8 ≠ g16) ∧ X.heap[g16]? = some (.cells (tpC p (if dE p l at1 (bs i) = 0 then l else 0) (dN p l at1 (bs i))) 26)) (fun s => fun i_ => match i_ with | 0 => .int .i64 ((dV p l at1 (bs i) : Nat) : Int) | 1 => .int .i64 ((dV p l at1 (bs i) : Nat) : Int) | 2 => .bool false | 3 => .bool false | 4 => .int .i64 ((dE p l at1 (bs i) : Nat) : Int) | 5 => .int .i64 ((dE p l at1 (bs i) : Nat) : Int) | 6 => .bool false | 7 => .bool false | 8 => .bool false | 9 => .agg (tpC p l at1) | 10 => .int .i64 ((at1 : Nat) : Int) | 11 => .int .i64 ((at1 : Nat) : Int) | 12 => .bool false | 13 => .bool false | _ => undef) () A.1 (by kernel_rfl) (by decide) (by decide) ⟨BB, F8, Fge8, Fge16, Fn16F8, F16⟩ ?_ ?_
    · intro i_ hi_ s a X hf hv hn hS
      match i_, hi_ with
      | 0, _ => exact stepV rfl rfl (execMvB rfl ((hf 15 (by decide)).trans t15)) ⟨s, ⟨_, rfl, rfl⟩, hS, fun _ _ => rfl⟩
      | 1, _ => exact stepV rfl rfl (execMvB rfl ((hf 12 (by decide)).trans t12)) ⟨s, ⟨_, rfl, rfl⟩, hS, fun _ _ => rfl⟩
      | 2, _ => exact stepV rfl rfl (execDec (execNeN (p := dV p l at1 (bs i)) (q := dV p l at1 (bs i)) rfl (hv 0 (by omega) _ rfl _ rfl) (hv 1 (by omega) _ rfl _ rfl)) (decide_eq_false (by omega))) ⟨s, ⟨_, rfl, rfl⟩, hS, fun _ _ => rfl⟩
      | 3, _ => exact stepV rfl rfl (execMvB rfl (hv 2 (by omega) _ rfl _ rfl)) ⟨s, ⟨_, rfl, rfl⟩, hS, fun _ _ => rfl⟩
      | 4, _ => exact stepV rfl (wantedOf rfl (yieldedAt rfl rfl (show a.eval (.tmp 69) = .bool false from (hv 3 (by omega) _ rfl _ rfl)))) (execMvB rfl ((hf 17 (by decide)).trans t17)) ⟨s, ⟨_, rfl, rfl⟩, hS, fun _ _ => rfl⟩
      | 5, _ => exact stepV rfl (wantedOf rfl (yieldedAt rfl rfl (show a.eval (.tmp 69) = .bool false from (hv 3 (by omega) _ rfl _ rfl)))) (execMvB rfl ((hf 14 (by decide)).trans t14)) ⟨s, ⟨_, rfl, rfl⟩, hS, fun _ _ => rfl⟩
      | 6, _ => exact stepV rfl (wantedOf rfl (yieldedAt rfl rfl (show a.eval (.tmp 69) = .bool false from (hv 3 (by omega) _ rfl _ rfl)))) (execDec (execNeN (p := dE p l at1 (bs i)) (q := dE p l at1 (bs i)) rfl (hv 4 (by omega) _ rfl _ rfl) (hv 5 (by omega) _ rfl _ rfl)) (decide_eq_false (by omega))) ⟨s, ⟨_, rfl, rfl⟩, hS, fun _ _ => rfl⟩
      | 7, _ => exact stepV rfl rfl (execPickF rfl (hv 3 (by omega) _ rfl _ rfl) (hv 6 (by omega) _ rfl _ rfl)) ⟨s, ⟨_, rfl, rfl⟩, hS, fun _ _ => rfl⟩
      | 8, _ => exact stepV rfl rfl (execMvB rfl (hv 7 (by omega) _ rfl _ rfl)) ⟨s, ⟨_, rfl, rfl⟩, hS, fun _ _ => rfl⟩
      | 9, _ => exact stepV rfl (wantedOf rfl (yieldedAt rfl rfl (show a.eval (.tmp 74) = .bool false from (hv 8 (by omega) _ rfl _ rfl)))) (execLdTp rfl ((hf 8 (by decide)).trans t8) hS.2.1) ⟨s, ⟨_, rfl, rfl⟩, hS, fun _ _ => rfl⟩
      | 10, _ => exact stepC rfl (wantedOf rfl (yieldedAt rfl rfl (show a.eval (.tmp 74) = .bool false from (hv 8 (by omega) _ rfl _ rfl)))) (execCall1 Try.func14 (by kernel_rfl) (by kernel_rfl) rfl (hv 9 (by omega) _ rfl _ rfl)) (used_any p l at1 X) fun e w' hh => ⟨_, hh.1, s, ⟨_, rfl, rfl⟩, ⟨(hS.1).trans ((hh.2).mono (hS.1).size), (on9 hS.2.1 hh.2), hS.2.2.1, hS.2.2.2.1, hS.2.2.2.2.1, (on9 hS.2.2.2.2.2 hh.2)⟩, fun _ _ => rfl⟩
      | 11, _ => exact stepV rfl (wantedOf rfl (yieldedAt rfl rfl (show a.eval (.tmp 74) = .bool false from (hv 8 (by omega) _ rfl _ rfl)))) (execMvB rfl ((hf 10 (by decide)).trans t10)) ⟨s, ⟨_, rfl, rfl⟩, hS, fun _ _ => rfl⟩
      | 12, _ => exact stepV rfl (wantedOf rfl (yieldedAt rfl rfl (show a.eval (.tmp 74) = .bool false from (hv 8 (by omega) _ rfl _ rfl)))) (execDec (execNeN (p := at1) (q := at1) rfl (hv 10 (by omega) _ rfl _ rfl) (hv 11 (by omega) _ rfl _ rfl)) (decide_eq_false (by omega))) ⟨s, ⟨_, rfl, rfl⟩, hS, fun _ _ => rfl⟩
      | 13, _ => exact stepV rfl rfl (execPickF rfl (hv 8 (by omega) _ rfl _ rfl) (hv 12 (by omega) _ rfl _ rfl)) ⟨s, ⟨_, rfl, rfl⟩, hS, fun _ _ => rfl⟩
      | k_ + 14, h_ => exact absurd h_ (by simp)
    rintro _ a X14 h1 h2 h3 h4 hS
    clear BB
    clear F8
    clear Fge8
    clear Fge16
    clear Fn16F8
    clear F16
    replace hS : Below W5.heap.size W5 X14 ∧ X14.heap[g8]? = some (.cells (tpC p l at1) 26) ∧ (W5.heap.size ≤ g8) ∧ (W5.heap.size ≤ g16) ∧ (g8 ≠ g16) ∧ X14.heap[g16]? = some (.cells (tpC p (if dE p l at1 (bs i) = 0 then l else 0) (dN p l at1 (bs i))) 26) := hS
    obtain ⟨BB, F8, Fge8, Fge16, Fn16F8, F16⟩ := hS
    replace t0 := (h3 0 (by decide)).trans t0
    replace t2 := (h3 2 (by decide)).trans t2
    replace t8 := (h3 8 (by decide)).trans t8
    replace t10 := (h3 10 (by decide)).trans t10
    replace t11 := (h3 11 (by decide)).trans t11
    replace t13 := (h3 13 (by decide)).trans t13
    replace t14 := (h3 14 (by decide)).trans t14
    replace t16 := (h3 16 (by decide)).trans t16
    have t79 : a.eval (.tmp 79) = .bool false := h4 13 _ rfl _ rfl
    replace A := (⟨h1, h2.trans A.2⟩ : a.tmps.size = 105 ∧ a.defers = [])
    clear h1 h2 h3 h4
    clear t12 t15 t17
    refine wp_cond_false t79 ?_
    refine wp_skip ?_
    clear t79
    refine wp_seq ?_
    refine wp_seq ?_
    refine wp_region_sq (σ := Unit) 105 [(0, 80), (1, 81)] (fun j_ s X => match j_ with | 0 => Below W5.heap.size W5 X ∧ X.heap[g8]? = some (.cells (tpC p l at1) 26) ∧ (W5.heap.size ≤ g8) ∧ (W5.heap.size ≤ g16) ∧ (g8 ≠ g16) ∧ X.heap[g16]? = some (.cells (tpC p (if dE p l at1 (bs i) = 0 then l else 0) (dN p l at1 (bs i))) 26) | 1 => Below W5.heap.size W5 X ∧ X.heap[g8]? = some (.cells (tpC p l at1) 26) ∧ (W5.heap.size ≤ g8) ∧ (W5.heap.size ≤ g16) ∧ (g8 ≠ g16) ∧ X.heap[g16]? = some (.cells (tpC p (if dE p l at1 (bs i) = 0 then l else 0) (dN p l at1 (bs i))) 26) | _ => Below W5.heap.size W5 X ∧ X.heap[g8]? = some (.cells (tpC p l at1) 26) ∧ (W5.heap.size ≤ g8) ∧ (W5.heap.size ≤ g16) ∧ (g8 ≠ g16) ∧ X.heap[g16]? = some (.cells (tpC p (if dE p l at1 (bs i) = 0 then l else 0) (dN p l at1 (bs i))) 26)) (fun s => fun i_ => match i_ with | 0 => .int .i64 ((dE p l at1 (bs i) : Nat) : Int) | 1 => .bool (decide (dE p l at1 (bs i) ≠ 0)) | _ => undef) () A.1 (by kernel_rfl) (by decide) (by decide) ⟨BB, F8, Fge8, Fge16, Fn16F8, F16⟩ ?_ ?_
    · intro i_ hi_ s a X hf hv hn hS
      match i_, hi_ with
      | 0, _ => exact stepV rfl rfl (execMvB rfl ((hf 14 (by decide)).trans t14)) ⟨s, ⟨_, rfl, rfl⟩, hS, fun _ _ => rfl⟩
      | 1, _ => exact stepV rfl rfl (execNeN (p := dE p l at1 (bs i)) (q := 0) rfl (hv 0 (by omega) _ rfl _ rfl) rfl) ⟨s, ⟨_, rfl, rfl⟩, hS, fun _ _ => rfl⟩
      | k_ + 2, h_ => exact absurd h_ (by simp)
    rintro _ a X16 h1 h2 h3 h4 hS
    clear BB
    clear F8
    clear Fge8
    clear Fge16
    clear Fn16F8
    clear F16
    replace hS : Below W5.heap.size W5 X16 ∧ X16.heap[g8]? = some (.cells (tpC p l at1) 26) ∧ (W5.heap.size ≤ g8) ∧ (W5.heap.size ≤ g16) ∧ (g8 ≠ g16) ∧ X16.heap[g16]? = some (.cells (tpC p (if dE p l at1 (bs i) = 0 then l else 0) (dN p l at1 (bs i))) 26) := hS
    obtain ⟨BB, F8, Fge8, Fge16, Fn16F8, F16⟩ := hS
    replace t0 := (h3 0 (by decide)).trans t0
    replace t2 := (h3 2 (by decide)).trans t2
    replace t8 := (h3 8 (by decide)).trans t8
    replace t10 := (h3 10 (by decide)).trans t10
    replace t11 := (h3 11 (by decide)).trans t11
    replace t13 := (h3 13 (by decide)).trans t13
    replace t16 := (h3 16 (by decide)).trans t16
    have t81 : a.eval (.tmp 81) = .bool (decide (dE p l at1 (bs i) ≠ 0)) := h4 1 _ rfl _ rfl
    replace A := (⟨h1, h2.trans A.2⟩ : a.tmps.size = 105 ∧ a.defers = [])
    clear h1 h2 h3 h4
    clear t14
    by_cases hE0 : dE p l at1 (bs i) = 0
    · rw [decide_eq_false (by omega)] at t81
      refine wp_cond_false t81 ?_
      refine wp_skip ?_
      clear t81
      rw [if_pos hE0] at F16
      have hdn : dN p l at1 (bs i) ≤ l := dN_le hat1
      refine wp_seq ?_
      refine wp_seq ?_
      refine wp_region_sq (σ := Unit) 105 [(0, 90), (1, 91), (2, 92), (3, 93), (4, 94), (5, 95), (6, 96), (7, 97), (8, 98), (9, 99), (10, 100), (11, 101), (12, 102)] (fun j_ s X => match j_ with | 0 => Below W5.heap.size W5 X ∧ X.heap[g8]? = some (.cells (tpC p l at1) 26) ∧ (W5.heap.size ≤ g8) ∧ (W5.heap.size ≤ g16) ∧ (g8 ≠ g16) ∧ X.heap[g16]? = some (.cells (tpC p l (dN p l at1 (bs i))) 26) | 1 => Below W5.heap.size W5 X ∧ X.heap[g8]? = some (.cells (tpC p l at1) 26) ∧ (W5.heap.size ≤ g8) ∧ (W5.heap.size ≤ g16) ∧ (g8 ≠ g16) ∧ X.heap[g16]? = some (.cells (tpC p l (dN p l at1 (bs i))) 26) | 2 => Below W5.heap.size W5 X ∧ X.heap[g8]? = some (.cells (tpC p l at1) 26) ∧ (W5.heap.size ≤ g8) ∧ (W5.heap.size ≤ g16) ∧ (g8 ≠ g16) ∧ X.heap[g16]? = some (.cells (tpC p l (dN p l at1 (bs i))) 26) | 3 => Below W5.heap.size W5 X ∧ X.heap[g8]? = some (.cells (tpC p l at1) 26) ∧ (W5.heap.size ≤ g8) ∧ (W5.heap.size ≤ g16) ∧ (g8 ≠ g16) ∧ X.heap[g16]? = some (.cells (tpC p l (dN p l at1 (bs i))) 26) | 4 => Below W5.heap.size W5 X ∧ X.heap[g8]? = some (.cells (tpC p l at1) 26) ∧ (W5.heap.size ≤ g8) ∧ (W5.heap.size ≤ g16) ∧ (g8 ≠ g16) ∧ X.heap[g16]? = some (.cells (tpC p l (dN p l at1 (bs i))) 26) | 5 => Below W5.heap.size W5 X ∧ X.heap[g8]? = some (.cells (tpC p l at1) 26) ∧ (W5.heap.size ≤ g8) ∧ (W5.heap.size ≤ g16) ∧ (g8 ≠ g16) ∧ X.heap[g16]? = some (.cells (tpC p l (dN p l at1 (bs i))) 26) | 6 => Below W5.heap.size W5 X ∧ X.heap[g8]? = some (.cells (tpC p l at1) 26) ∧ (W5.heap.size ≤ g8) ∧ (W5.heap.size ≤ g16) ∧ (g8 ≠ g16) ∧ X.heap[g16]? = some (.cells (tpC p l (dN p l at1 (bs i))) 26) | 7 => Below W5.heap.size W5 X ∧ X.heap[g8]? = some (.cells (tpC p l at1) 26) ∧ (W5.heap.size ≤ g8) ∧ (W5.heap.size ≤ g16) ∧ (g8 ≠ g16) ∧ X.heap[g16]? = some (.cells (tpC p l (dN p l at1 (bs i))) 26) | 8 => Below W5.heap.size W5 X ∧ X.heap[g8]? = some (.cells (tpC p l at1) 26) ∧ (W5.heap.size ≤ g8) ∧ (W5.heap.size ≤ g16) ∧ (g8 ≠ g16) ∧ X.heap[g16]? = some (.cells (tpC p l (dN p l at1 (bs i))) 26) | 9 => Below W5.heap.size W5 X ∧ X.heap[g8]? = some (.cells (tpC p l at1) 26) ∧ (W5.heap.size ≤ g8) ∧ (W5.heap.size ≤ g16) ∧ (g8 ≠ g16) ∧ X.heap[g16]? = some (.cells (tpC p l (dN p l at1 (bs i))) 26) | 10 => Below W5.heap.size W5 X ∧ X.heap[g8]? = some (.cells (tpC p l at1) 26) ∧ (W5.heap.size ≤ g8) ∧ (W5.heap.size ≤ g16) ∧ (g8 ≠ g16) ∧ X.heap[g16]? = some (.cells (tpC p l (dN p l at1 (bs i))) 26) | 11 => Below W5.heap.size W5 X ∧ X.heap[g8]? = some (.cells (tpC p l at1) 26) ∧ (W5.heap.size ≤ g8) ∧ (W5.heap.size ≤ g16) ∧ (g8 ≠ g16) ∧ X.heap[g16]? = some (.cells (tpC p l (dN p l at1 (bs i))) 26) | 12 => Below W5.heap.size W5 X ∧ X.heap[g8]? = some (.cells (tpC p l at1) 26) ∧ (W5.heap.size ≤ g8) ∧ (W5.heap.size ≤ g16) ∧ (g8 ≠ g16) ∧ X.heap[g16]? = some (.cells (tpC p l (dN p l at1 (bs i))) 26) | _ => Below W5.heap.size W5 X ∧ X.heap[g8]? = some (.cells (tpC p l at1) 26) ∧ (W5.heap.size ≤ g8) ∧ (W5.heap.size ≤ g16) ∧ (g8 ≠ g16) ∧ X.heap[g16]? = some (.cells (tpC p l (dN p l at1 (bs i))) 26)) (fun s => fun i_ => match i_ with | 0 => .agg (tpC p l (dN p l at1 (bs i))) | 1 => .int .i64 (((dN p l at1 (bs i)) : Nat) : Int) | 2 => .int .i64 ((dN p l at1 (bs i) : Nat) : Int) | 3 => .bool false | 4 => .bool false | 5 => .agg (tpC p l (dN p l at1 (bs i))) | 6 => .int .i64 ((l - (dN p l at1 (bs i)) : Nat) : Int) | 7 => pv | 8 => .int .i64 ((l : Nat) : Int) | 9 => .int .i64 ((dN p l at1 (bs i) : Nat) : Int) | 10 => .int .i64 ((l - dN p l at1 (bs i) : Nat) : Int) | 11 => .bool false | 12 => .bool false | _ => undef) () A.1 (by kernel_rfl) (by decide) (by decide) ⟨BB, F8, Fge8, Fge16, Fn16F8, F16⟩ ?_ ?_
      · intro i_ hi_ s a X hf hv hn hS
        match i_, hi_ with
        | 0, _ => exact stepV rfl rfl (execLdTp rfl ((hf 16 (by decide)).trans t16) hS.2.2.2.2.2) ⟨s, ⟨_, rfl, rfl⟩, hS, fun _ _ => rfl⟩
        | 1, _ => exact stepC rfl rfl (execCall1 Try.func14 (by kernel_rfl) (by kernel_rfl) rfl (hv 0 (by omega) _ rfl _ rfl)) (used_any p l (dN p l at1 (bs i)) X) fun e w' hh => ⟨_, hh.1, s, ⟨_, rfl, rfl⟩, ⟨(hS.1).trans ((hh.2).mono (hS.1).size), (on9 hS.2.1 hh.2), hS.2.2.1, hS.2.2.2.1, hS.2.2.2.2.1, (on9 hS.2.2.2.2.2 hh.2)⟩, fun _ _ => rfl⟩
        | 2, _ => exact stepV rfl rfl (execMvB rfl ((hf 13 (by decide)).trans t13)) ⟨s, ⟨_, rfl, rfl⟩, hS, fun _ _ => rfl⟩
        | 3, _ => exact stepV rfl rfl (execDec (execNeN (p := (dN p l at1 (bs i))) (q := dN p l at1 (bs i)) rfl (hv 1 (by omega) _ rfl _ rfl) (hv 2 (by omega) _ rfl _ rfl)) (decide_eq_false (by omega))) ⟨s, ⟨_, rfl, rfl⟩, hS, fun _ _ => rfl⟩
        | 4, _ => exact stepV rfl rfl (execMvB rfl (hv 3 (by omega) _ rfl _ rfl)) ⟨s, ⟨_, rfl, rfl⟩, hS, fun _ _ => rfl⟩
        | 5, _ => exact stepV rfl (wantedOf rfl (yieldedAt rfl rfl (show a.eval (.tmp 94) = .bool false from (hv 4 (by omega) _ rfl _ rfl)))) (execLdTp rfl ((hf 16 (by decide)).trans t16) hS.2.2.2.2.2) ⟨s, ⟨_, rfl, rfl⟩, hS, fun _ _ => rfl⟩
        | 6, _ => exact stepC rfl (wantedOf rfl (yieldedAt rfl rfl (show a.eval (.tmp 94) = .bool false from (hv 4 (by omega) _ rfl _ rfl)))) (execCall1 Try.func15 (by kernel_rfl) (by kernel_rfl) rfl (hv 5 (by omega) _ rfl _ rfl)) (left_any p l (dN p l at1 (bs i)) X (by omega) (by omega)) fun e w' hh => ⟨_, hh.1, s, ⟨_, rfl, rfl⟩, ⟨(hS.1).trans ((hh.2).mono (hS.1).size), (on9 hS.2.1 hh.2), hS.2.2.1, hS.2.2.2.1, hS.2.2.2.2.1, (on9 hS.2.2.2.2.2 hh.2)⟩, fun _ _ => rfl⟩
        | 7, _ => exact stepV rfl (wantedOf rfl (yieldedAt rfl rfl (show a.eval (.tmp 94) = .bool false from (hv 4 (by omega) _ rfl _ rfl)))) (execMvB rfl ((hf 0 (by decide)).trans t0)) ⟨s, ⟨_, rfl, rfl⟩, hS, fun _ _ => rfl⟩
        | 8, _ => exact stepV rfl (wantedOf rfl (yieldedAt rfl rfl (show a.eval (.tmp 94) = .bool false from (hv 4 (by omega) _ rfl _ rfl)))) (execLenV (len := l) rfl (hv 7 (by omega) _ rfl _ rfl) (shp9 (FP.on hS.1))) ⟨s, ⟨_, rfl, rfl⟩, hS, fun _ _ => rfl⟩
        | 9, _ => exact stepV rfl (wantedOf rfl (yieldedAt rfl rfl (show a.eval (.tmp 94) = .bool false from (hv 4 (by omega) _ rfl _ rfl)))) (execMvB rfl ((hf 13 (by decide)).trans t13)) ⟨s, ⟨_, rfl, rfl⟩, hS, fun _ _ => rfl⟩
        | 10, _ => exact stepV rfl (wantedOf rfl (yieldedAt rfl rfl (show a.eval (.tmp 94) = .bool false from (hv 4 (by omega) _ rfl _ rfl)))) (By8.execSubI (p := l) (q := dN p l at1 (bs i)) rfl (hv 8 (by omega) _ rfl _ rfl) (hv 9 (by omega) _ rfl _ rfl) hdn (by omega)) ⟨s, ⟨_, rfl, rfl⟩, hS, fun _ _ => rfl⟩
        | 11, _ => exact stepV rfl (wantedOf rfl (yieldedAt rfl rfl (show a.eval (.tmp 94) = .bool false from (hv 4 (by omega) _ rfl _ rfl)))) (execDec (execNeN (p := l - (dN p l at1 (bs i))) (q := l - dN p l at1 (bs i)) rfl (hv 6 (by omega) _ rfl _ rfl) (hv 10 (by omega) _ rfl _ rfl)) (decide_eq_false (by omega))) ⟨s, ⟨_, rfl, rfl⟩, hS, fun _ _ => rfl⟩
        | 12, _ => exact stepV rfl rfl (execPickF rfl (hv 4 (by omega) _ rfl _ rfl) (hv 11 (by omega) _ rfl _ rfl)) ⟨s, ⟨_, rfl, rfl⟩, hS, fun _ _ => rfl⟩
        | k_ + 13, h_ => exact absurd h_ (by simp)
      rintro _ a X19 h1 h2 h3 h4 hS
      clear BB
      clear F8
      clear Fge8
      clear Fge16
      clear Fn16F8
      clear F16
      replace hS : Below W5.heap.size W5 X19 ∧ X19.heap[g8]? = some (.cells (tpC p l at1) 26) ∧ (W5.heap.size ≤ g8) ∧ (W5.heap.size ≤ g16) ∧ (g8 ≠ g16) ∧ X19.heap[g16]? = some (.cells (tpC p l (dN p l at1 (bs i))) 26) := hS
      obtain ⟨BB, F8, Fge8, Fge16, Fn16F8, F16⟩ := hS
      replace t0 := (h3 0 (by decide)).trans t0
      replace t2 := (h3 2 (by decide)).trans t2
      replace t8 := (h3 8 (by decide)).trans t8
      replace t10 := (h3 10 (by decide)).trans t10
      replace t11 := (h3 11 (by decide)).trans t11
      replace t13 := (h3 13 (by decide)).trans t13
      replace t16 := (h3 16 (by decide)).trans t16
      have t102 : a.eval (.tmp 102) = .bool false := h4 12 _ rfl _ rfl
      replace A := (⟨h1, h2.trans A.2⟩ : a.tmps.size = 105 ∧ a.defers = [])
      clear h1 h2 h3 h4
      refine wp_cond_false t102 ?_
      refine wp_skip ?_
      clear t102
      refine wp_seq ?_
      refine wp_region_sq (σ := Unit) 105 [(0, 103)] (fun j_ s X => match j_ with | 0 => Below W5.heap.size W5 X ∧ X.heap[g8]? = some (.cells (tpC p l at1) 26) ∧ (W5.heap.size ≤ g8) ∧ (W5.heap.size ≤ g16) ∧ (g8 ≠ g16) ∧ X.heap[g16]? = some (.cells (tpC p l (dN p l at1 (bs i))) 26) | 1 => Below W5.heap.size W5 X ∧ X.heap[g8]? = some (.cells (tpC p l at1) 26) ∧ (W5.heap.size ≤ g8) ∧ (W5.heap.size ≤ g16) ∧ (g8 ≠ g16) ∧ X.heap[g16]? = some (.cells (tpC p l (dN p l at1 (bs i))) 26) | _ => Below W5.heap.size W5 X ∧ (W5.heap.size ≤ g8) ∧ (W5.heap.size ≤ g16) ∧ (g8 ≠ g16) ∧ X.heap[g8]? = some (.cells (tpC p l (dN p l at1 (bs i))) 26)) (fun s => fun i_ => match i_ with | 0 => .agg (tpC p l (dN p l at1 (bs i))) | 1 => undef | _ => undef) () A.1 (by kernel_rfl) (by decide) (by decide) ⟨BB, F8, Fge8, Fge16, Fn16F8, F16⟩ ?_ ?_
      · intro i_ hi_ s a X hf hv hn hS
        match i_, hi_ with
        | 0, _ => exact stepV rfl rfl (execLdTp rfl ((hf 16 (by decide)).trans t16) hS.2.2.2.2.2) ⟨s, ⟨_, rfl, rfl⟩, hS, fun _ _ => rfl⟩
        | 1, _ => exact stepS rfl rfl (execStTp rfl ((hf 8 (by decide)).trans t8) (hv 0 (by omega) _ rfl _ rfl) hS.2.1 rfl) ⟨s, ⟨_, rfl, rfl⟩, ⟨below4 hS.1 hS.2.2.1 _, hS.2.2.1, hS.2.2.2.1, hS.2.2.2.2.1, setRow_heap _ _ _ _ _ _ hS.2.1⟩, fun _ _ => rfl⟩
        | k_ + 2, h_ => exact absurd h_ (by simp)
      rintro _ a X21 h1 h2 h3 h4 hS
      clear BB
      clear F8
      clear Fge8
      clear Fge16
      clear Fn16F8
      clear F16
      replace hS : Below W5.heap.size W5 X21 ∧ (W5.heap.size ≤ g8) ∧ (W5.heap.size ≤ g16) ∧ (g8 ≠ g16) ∧ X21.heap[g8]? = some (.cells (tpC p l (dN p l at1 (bs i))) 26) := hS
      obtain ⟨BB, Fge8, Fge16, Fn16F8, F8⟩ := hS
      replace t0 := (h3 0 (by decide)).trans t0
      replace t2 := (h3 2 (by decide)).trans t2
      replace t8 := (h3 8 (by decide)).trans t8
      replace t10 := (h3 10 (by decide)).trans t10
      replace t11 := (h3 11 (by decide)).trans t11
      replace t13 := (h3 13 (by decide)).trans t13
      replace A := (⟨h1, h2.trans A.2⟩ : a.tmps.size = 105 ∧ a.defers = [])
      clear h1 h2 h3 h4
      clear t16
      refine wp_region_sq (σ := Unit) 105 [(0, 104), (1, 10)] (fun j_ s X => match j_ with | 0 => Below W5.heap.size W5 X ∧ (W5.heap.size ≤ g8) ∧ (W5.heap.size ≤ g16) ∧ (g8 ≠ g16) ∧ X.heap[g8]? = some (.cells (tpC p l (dN p l at1 (bs i))) 26) | 1 => Below W5.heap.size W5 X ∧ (W5.heap.size ≤ g8) ∧ (W5.heap.size ≤ g16) ∧ (g8 ≠ g16) ∧ X.heap[g8]? = some (.cells (tpC p l (dN p l at1 (bs i))) 26) | _ => Below W5.heap.size W5 X ∧ (W5.heap.size ≤ g8) ∧ (W5.heap.size ≤ g16) ∧ (g8 ≠ g16) ∧ X.heap[g8]? = some (.cells (tpC p l (dN p l at1 (bs i))) 26)) (fun s => fun i_ => match i_ with | 0 => .int .i64 ((dN p l at1 (bs i) : Nat) : Int) | 1 => .int .i64 ((dN p l at1 (bs i) : Nat) : Int) | _ => undef) () A.1 (by kernel_rfl) (by decide) (by decide) ⟨BB, Fge8, Fge16, Fn16F8, F8⟩ ?_ ?_
      · intro i_ hi_ s a X hf hv hn hS
        match i_, hi_ with
        | 0, _ => exact stepV rfl rfl (execMvB rfl ((hf 13 (by decide)).trans t13)) ⟨s, ⟨_, rfl, rfl⟩, hS, fun _ _ => rfl⟩
        | 1, _ => exact stepV rfl rfl (execAsgB rfl (hv 0 (by omega) _ rfl _ rfl)) ⟨s, ⟨_, rfl, rfl⟩, hS, fun _ _ => rfl⟩
        | k_ + 2, h_ => exact absurd h_ (by simp)
      rintro _ a X22 h1 h2 h3 h4 hS
      clear BB
      clear Fge8
      clear Fge16
      clear Fn16F8
      clear F8
      replace hS : Below W5.heap.size W5 X22 ∧ (W5.heap.size ≤ g8) ∧ (W5.heap.size ≤ g16) ∧ (g8 ≠ g16) ∧ X22.heap[g8]? = some (.cells (tpC p l (dN p l at1 (bs i))) 26) := hS
      obtain ⟨BB, Fge8, Fge16, Fn16F8, F8⟩ := hS
      replace t0 := (h3 0 (by decide)).trans t0
      replace t2 := (h3 2 (by decide)).trans t2
      replace t8 := (h3 8 (by decide)).trans t8
      replace t10 : a.eval (.tmp 10) = .int .i64 ((dN p l at1 (bs i) : Nat) : Int) := h4 1 _ rfl _ rfl
      replace t11 := (h3 11 (by decide)).trans t11
      replace A := (⟨h1, h2.trans A.2⟩ : a.tmps.size = 105 ∧ a.defers = [])
      clear h1 h2 h3 h4
      clear t13
      refine wp_region_sq (σ := Unit) 105 [(0, 43), (1, 44), (2, 11)] (fun j_ s X => match j_ with | 0 => Below W5.heap.size W5 X ∧ (W5.heap.size ≤ g8) ∧ (W5.heap.size ≤ g16) ∧ (g8 ≠ g16) ∧ X.heap[g8]? = some (.cells (tpC p l (dN p l at1 (bs i))) 26) | 1 => Below W5.heap.size W5 X ∧ (W5.heap.size ≤ g8) ∧ (W5.heap.size ≤ g16) ∧ (g8 ≠ g16) ∧ X.heap[g8]? = some (.cells (tpC p l (dN p l at1 (bs i))) 26) | 2 => Below W5.heap.size W5 X ∧ (W5.heap.size ≤ g8) ∧ (W5.heap.size ≤ g16) ∧ (g8 ≠ g16) ∧ X.heap[g8]? = some (.cells (tpC p l (dN p l at1 (bs i))) 26) | _ => Below W5.heap.size W5 X ∧ (W5.heap.size ≤ g8) ∧ (W5.heap.size ≤ g16) ∧ (g8 ≠ g16) ∧ X.heap[g8]? = some (.cells (tpC p l (dN p l at1 (bs i))) 26)) (fun s => fun i_ => match i_ with | 0 => .int .i64 ((i : Nat) : Int) | 1 => .int .i64 ((i + 1 : Nat) : Int) | 2 => .int .i64 ((i + 1 : Nat) : Int) | _ => undef) () A.1 (by kernel_rfl) (by decide) (by decide) ⟨BB, Fge8, Fge16, Fn16F8, F8⟩ ?_ ?_
      · intro i_ hi_ s a X hf hv hn hS
        match i_, hi_ with
        | 0, _ => exact stepV rfl rfl (execMvB rfl ((hn 2 (by omega) _ rfl _ rfl).trans t11)) ⟨s, ⟨_, rfl, rfl⟩, hS, fun _ _ => rfl⟩
        | 1, _ => exact stepV rfl rfl (execAd8 (p := i) (q := 1) rfl (hv 0 (by omega) _ rfl _ rfl) rfl (by omega)) ⟨s, ⟨_, rfl, rfl⟩, hS, fun _ _ => rfl⟩
        | 2, _ => exact stepV rfl rfl (execAsgB rfl (hv 1 (by omega) _ rfl _ rfl)) ⟨s, ⟨_, rfl, rfl⟩, hS, fun _ _ => rfl⟩
        | k_ + 3, h_ => exact absurd h_ (by simp)
      rintro _ a X11 h1 h2 h3 h4 hS
      clear BB
      clear Fge8
      clear Fge16
      clear Fn16F8
      clear F8
      replace hS : Below W5.heap.size W5 X11 ∧ (W5.heap.size ≤ g8) ∧ (W5.heap.size ≤ g16) ∧ (g8 ≠ g16) ∧ X11.heap[g8]? = some (.cells (tpC p l (dN p l at1 (bs i))) 26) := hS
      obtain ⟨BB, Fge8, Fge16, Fn16F8, F8⟩ := hS
      replace t0 := (h3 0 (by decide)).trans t0
      replace t2 := (h3 2 (by decide)).trans t2
      replace t8 := (h3 8 (by decide)).trans t8
      replace t10 := (h3 10 (by decide)).trans t10
      replace t11 : a.eval (.tmp 11) = .int .i64 ((i + 1 : Nat) : Int) := h4 2 _ rfl _ rfl
      replace A := (⟨h1, h2.trans A.2⟩ : a.tmps.size = 105 ∧ a.defers = [])
      clear h1 h2 h3 h4
      rw [← ebv] at t2
      exact ⟨⟨i + 1, dN p l at1 (bs i), hlt, hdn, A, t0, t2, t8, t10, t11, BB, F8⟩, by show n - (intOf (a.eval (.tmp 11))).toNat < n - (intOf (Act.eval _ (.tmp 11))).toNat; rw [t11, e11]; show n - (i + 1) < n - i; omega⟩
    · rw [decide_eq_true hE0] at t81
      refine wp_cond_true t81 ?_
      clear t81
      rw [if_neg hE0, show dN p l at1 (bs i) = 0 from if_neg hE0] at F16
      refine wp_seq ?_
      refine wp_seq ?_
      refine wp_region_sq (σ := Unit) 105 [(0, 82), (1, 83), (2, 84), (3, 85), (4, 86), (5, 87), (6, 88), (7, 89)] (fun j_ s X => match j_ with | 0 => Below W5.heap.size W5 X ∧ X.heap[g8]? = some (.cells (tpC p l at1) 26) ∧ (W5.heap.size ≤ g8) ∧ (W5.heap.size ≤ g16) ∧ (g8 ≠ g16) ∧ X.heap[g16]? = some (.cells (tpC p 0 0) 26) | 1 => Below W5.heap.size W5 X ∧ X.heap[g8]? = some (.cells (tpC p l at1) 26) ∧ (W5.heap.size ≤ g8) ∧ (W5.heap.size ≤ g16) ∧ (g8 ≠ g16) ∧ X.heap[g16]? = some (.cells (tpC p 0 0) 26) | 2 => Below W5.heap.size W5 X ∧ X.heap[g8]? = some (.cells (tpC p l at1) 26) ∧ (W5.heap.size ≤ g8) ∧ (W5.heap.size ≤ g16) ∧ (g8 ≠ g16) ∧ X.heap[g16]? = some (.cells (tpC p 0 0) 26) | 3 => Below W5.heap.size W5 X ∧ X.heap[g8]? = some (.cells (tpC p l at1) 26) ∧ (W5.heap.size ≤ g8) ∧ (W5.heap.size ≤ g16) ∧ (g8 ≠ g16) ∧ X.heap[g16]? = some (.cells (tpC p 0 0) 26) | 4 => Below W5.heap.size W5 X ∧ X.heap[g8]? = some (.cells (tpC p l at1) 26) ∧ (W5.heap.size ≤ g8) ∧ (W5.heap.size ≤ g16) ∧ (g8 ≠ g16) ∧ X.heap[g16]? = some (.cells (tpC p 0 0) 26) | 5 => Below W5.heap.size W5 X ∧ X.heap[g8]? = some (.cells (tpC p l at1) 26) ∧ (W5.heap.size ≤ g8) ∧ (W5.heap.size ≤ g16) ∧ (g8 ≠ g16) ∧ X.heap[g16]? = some (.cells (tpC p 0 0) 26) | 6 => Below W5.heap.size W5 X ∧ X.heap[g8]? = some (.cells (tpC p l at1) 26) ∧ (W5.heap.size ≤ g8) ∧ (W5.heap.size ≤ g16) ∧ (g8 ≠ g16) ∧ X.heap[g16]? = some (.cells (tpC p 0 0) 26) | 7 => Below W5.heap.size W5 X ∧ X.heap[g8]? = some (.cells (tpC p l at1) 26) ∧ (W5.heap.size ≤ g8) ∧ (W5.heap.size ≤ g16) ∧ (g8 ≠ g16) ∧ X.heap[g16]? = some (.cells (tpC p 0 0) 26) | _ => Below W5.heap.size W5 X ∧ X.heap[g8]? = some (.cells (tpC p l at1) 26) ∧ (W5.heap.size ≤ g8) ∧ (W5.heap.size ≤ g16) ∧ (g8 ≠ g16) ∧ X.heap[g16]? = some (.cells (tpC p 0 0) 26)) (fun s => fun i_ => match i_ with | 0 => .agg (tpC p 0 0) | 1 => .int .i64 ((0 - 0 : Nat) : Int) | 2 => .bool false | 3 => .bool false | 4 => .agg (tpC p 0 0) | 5 => .int .i64 ((0 : Nat) : Int) | 6 => .bool false | 7 => .bool false | _ => undef) () A.1 (by kernel_rfl) (by decide) (by decide) ⟨BB, F8, Fge8, Fge16, Fn16F8, F16⟩ ?_ ?_
      · intro i_ hi_ s a X hf hv hn hS
        match i_, hi_ with
        | 0, _ => exact stepV rfl rfl (execLdTp rfl ((hf 16 (by decide)).trans t16) hS.2.2.2.2.2) ⟨s, ⟨_, rfl, rfl⟩, hS, fun _ _ => rfl⟩
        | 1, _ => exact stepC rfl rfl (execCall1 Try.func15 (by kernel_rfl) (by kernel_rfl) rfl (hv 0 (by omega) _ rfl _ rfl)) (left_any p 0 0 X (by omega) (by omega)) fun e w' hh => ⟨_, hh.1, s, ⟨_, rfl, rfl⟩, ⟨(hS.1).trans ((hh.2).mono (hS.1).size), (on9 hS.2.1 hh.2), hS.2.2.1, hS.2.2.2.1, hS.2.2.2.2.1, (on9 hS.2.2.2.2.2 hh.2)⟩, fun _ _ => rfl⟩
        | 2, _ => exact stepV rfl rfl (execDec (execNeN (p := 0 - 0) (q := 0) rfl (hv 1 (by omega) _ rfl _ rfl) rfl) (decide_eq_false (by omega))) ⟨s, ⟨_, rfl, rfl⟩, hS, fun _ _ => rfl⟩
        | 3, _ => exact stepV rfl rfl (execMvB rfl (hv 2 (by omega) _ rfl _ rfl)) ⟨s, ⟨_, rfl, rfl⟩, hS, fun _ _ => rfl⟩
        | 4, _ => exact stepV rfl (wantedOf rfl (yieldedAt rfl rfl (show a.eval (.tmp 85) = .bool false from (hv 3 (by omega) _ rfl _ rfl)))) (execLdTp rfl ((hf 16 (by decide)).trans t16) hS.2.2.2.2.2) ⟨s, ⟨_, rfl, rfl⟩, hS, fun _ _ => rfl⟩
        | 5, _ => exact stepC rfl (wantedOf rfl (yieldedAt rfl rfl (show a.eval (.tmp 85) = .bool false from (hv 3 (by omega) _ rfl _ rfl)))) (execCall1 Try.func14 (by kernel_rfl) (by kernel_rfl) rfl (hv 4 (by omega) _ rfl _ rfl)) (used_any p 0 0 X) fun e w' hh => ⟨_, hh.1, s, ⟨_, rfl, rfl⟩, ⟨(hS.1).trans ((hh.2).mono (hS.1).size), (on9 hS.2.1 hh.2), hS.2.2.1, hS.2.2.2.1, hS.2.2.2.2.1, (on9 hS.2.2.2.2.2 hh.2)⟩, fun _ _ => rfl⟩
        | 6, _ => exact stepV rfl (wantedOf rfl (yieldedAt rfl rfl (show a.eval (.tmp 85) = .bool false from (hv 3 (by omega) _ rfl _ rfl)))) (execDec (execNeN (p := 0) (q := 0) rfl (hv 5 (by omega) _ rfl _ rfl) rfl) (decide_eq_false (by omega))) ⟨s, ⟨_, rfl, rfl⟩, hS, fun _ _ => rfl⟩
        | 7, _ => exact stepV rfl rfl (execPickF rfl (hv 3 (by omega) _ rfl _ rfl) (hv 6 (by omega) _ rfl _ rfl)) ⟨s, ⟨_, rfl, rfl⟩, hS, fun _ _ => rfl⟩
        | k_ + 8, h_ => exact absurd h_ (by simp)
      rintro _ a X17 h1 h2 h3 h4 hS
      clear BB
      clear F8
      clear Fge8
      clear Fge16
      clear Fn16F8
      clear F16
      replace hS : Below W5.heap.size W5 X17 ∧ X17.heap[g8]? = some (.cells (tpC p l at1) 26) ∧ (W5.heap.size ≤ g8) ∧ (W5.heap.size ≤ g16) ∧ (g8 ≠ g16) ∧ X17.heap[g16]? = some (.cells (tpC p 0 0) 26) := hS
      obtain ⟨BB, F8, Fge8, Fge16, Fn16F8, F16⟩ := hS
      replace t0 := (h3 0 (by decide)).trans t0
      replace t2 := (h3 2 (by decide)).trans t2
      replace t8 := (h3 8 (by decide)).trans t8
      replace t10 := (h3 10 (by decide)).trans t10
      replace t11 := (h3 11 (by decide)).trans t11
      have t89 : a.eval (.tmp 89) = .bool false := h4 7 _ rfl _ rfl
      replace A := (⟨h1, h2.trans A.2⟩ : a.tmps.size = 105 ∧ a.defers = [])
      clear h1 h2 h3 h4
      clear t13 t16
      refine wp_cond_false t89 ?_
      refine wp_skip ?_
      clear t89
      refine wp_exit ?_
      repeat (first | refine exit_in ?_ | refine exit_then ?_)
      refine wp_region_sq (σ := Unit) 105 [(0, 43), (1, 44), (2, 11)] (fun j_ s X => match j_ with | 0 => Below W5.heap.size W5 X ∧ X.heap[g8]? = some (.cells (tpC p l at1) 26) ∧ (W5.heap.size ≤ g8) ∧ (W5.heap.size ≤ g16) ∧ (g8 ≠ g16) ∧ X.heap[g16]? = some (.cells (tpC p 0 0) 26) | 1 => Below W5.heap.size W5 X ∧ X.heap[g8]? = some (.cells (tpC p l at1) 26) ∧ (W5.heap.size ≤ g8) ∧ (W5.heap.size ≤ g16) ∧ (g8 ≠ g16) ∧ X.heap[g16]? = some (.cells (tpC p 0 0) 26) | 2 => Below W5.heap.size W5 X ∧ X.heap[g8]? = some (.cells (tpC p l at1) 26) ∧ (W5.heap.size ≤ g8) ∧ (W5.heap.size ≤ g16) ∧ (g8 ≠ g16) ∧ X.heap[g16]? = some (.cells (tpC p 0 0) 26) | _ => Below W5.heap.size W5 X ∧ X.heap[g8]? = some (.cells (tpC p l at1) 26) ∧ (W5.heap.size ≤ g8) ∧ (W5.heap.size ≤ g16) ∧ (g8 ≠ g16) ∧ X.heap[g16]? = some (.cells (tpC p 0 0) 26)) (fun s => fun i_ => match i_ with | 0 => .int .i64 ((i : Nat) : Int) | 1 => .int .i64 ((i + 1 : Nat) : Int) | 2 => .int .i64 ((i + 1 : Nat) : Int) | _ => undef) () A.1 (by kernel_rfl) (by decide) (by decide) ⟨BB, F8, Fge8, Fge16, Fn16F8, F16⟩ ?_ ?_
      · intro i_ hi_ s a X hf hv hn hS
        match i_, hi_ with
        | 0, _ => exact stepV rfl rfl (execMvB rfl ((hn 2 (by omega) _ rfl _ rfl).trans t11)) ⟨s, ⟨_, rfl, rfl⟩, hS, fun _ _ => rfl⟩
        | 1, _ => exact stepV rfl rfl (execAd8 (p := i) (q := 1) rfl (hv 0 (by omega) _ rfl _ rfl) rfl (by omega)) ⟨s, ⟨_, rfl, rfl⟩, hS, fun _ _ => rfl⟩
        | 2, _ => exact stepV rfl rfl (execAsgB rfl (hv 1 (by omega) _ rfl _ rfl)) ⟨s, ⟨_, rfl, rfl⟩, hS, fun _ _ => rfl⟩
        | k_ + 3, h_ => exact absurd h_ (by simp)
      rintro _ a X11 h1 h2 h3 h4 hS
      clear BB
      clear F8
      clear Fge8
      clear Fge16
      clear Fn16F8
      clear F16
      replace hS : Below W5.heap.size W5 X11 ∧ X11.heap[g8]? = some (.cells (tpC p l at1) 26) ∧ (W5.heap.size ≤ g8) ∧ (W5.heap.size ≤ g16) ∧ (g8 ≠ g16) ∧ X11.heap[g16]? = some (.cells (tpC p 0 0) 26) := hS
      obtain ⟨BB, F8, Fge8, Fge16, Fn16F8, F16⟩ := hS
      replace t0 := (h3 0 (by decide)).trans t0
      replace t2 := (h3 2 (by decide)).trans t2
      replace t8 := (h3 8 (by decide)).trans t8
      replace t10 := (h3 10 (by decide)).trans t10
      replace t11 : a.eval (.tmp 11) = .int .i64 ((i + 1 : Nat) : Int) := h4 2 _ rfl _ rfl
      replace A := (⟨h1, h2.trans A.2⟩ : a.tmps.size = 105 ∧ a.defers = [])
      clear h1 h2 h3 h4
      rw [← ebv] at t2
      exact ⟨⟨i + 1, at1, hlt, hat1, A, t0, t2, t8, t10, t11, BB, F8⟩, by show n - (intOf (a.eval (.tmp 11))).toNat < n - (intOf (Act.eval _ (.tmp 11))).toNat; rw [t11, e11]; show n - (i + 1) < n - i; omega⟩
  · rw [decide_eq_false hlt] at t42
    refine wp_cond_false t42 ?_
    refine wp_exit ?_
    first | refine exit_in ?_ | refine exit_then (exit_in ?_) | refine exit_then (exit_then (exit_in ?_))
    clear t42
    refine wp_seq ?_
    refine wp_region_sq (σ := Unit) 105 [(0, 6)] (fun j_ s X => match j_ with | 0 => Below W5.heap.size W5 X ∧ X.heap[g8]? = some (.cells (tpC p l at1) 26) ∧ (W5.heap.size ≤ g8) | _ => Below W5.heap.size W5 X ∧ X.heap[g8]? = some (.cells (tpC p l at1) 26) ∧ (W5.heap.size ≤ g8)) (fun s => fun i_ => match i_ with | 0 => .bool true | _ => undef) () A.1 (by kernel_rfl) (by decide) (by decide) ⟨BB, F8, Fge8⟩ ?_ ?_
    · intro i_ hi_ s a X hf hv hn hS
      match i_, hi_ with
      | 0, _ => exact stepV rfl rfl (execAsgB rfl rfl) ⟨s, ⟨_, rfl, rfl⟩, hS, fun _ _ => rfl⟩
      | k_ + 1, h_ => exact absurd h_ (by simp)
    rintro _ a X23 h1 h2 h3 h4 hS
    clear BB
    clear F8
    clear Fge8
    replace hS : Below W5.heap.size W5 X23 ∧ X23.heap[g8]? = some (.cells (tpC p l at1) 26) ∧ (W5.heap.size ≤ g8) := hS
    obtain ⟨BB, F8, Fge8⟩ := hS
    have t6 : a.eval (.tmp 6) = .bool true := h4 0 _ rfl _ rfl
    replace A := (⟨h1, h2.trans A.2⟩ : a.tmps.size = 105 ∧ a.defers = [])
    clear h1 h2 h3 h4
    clear t0 t2 t8 t10 t11
    refine wp_ret ?_
    refine bodyPost_ret (results_tmp rfl _ _ _) A.2 ⟨?_, BW.trans (BB.mono BW.size)⟩
    show Ending.returned (a.eval (.tmp 6)) = _
    rw [t6]
set_option maxRecDepth 100000 in
set_option maxHeartbeats 4000000 in
theorem belows_any (I : Impl) (p : Nat → Nat) (l : Nat) (bs : Nat → Int) (n : Nat) (pv bv : Value) (V : World) (hp : SliceN V pv l p) (hl : l ≤ 140737488351232) (hb : SliceI V bv n bs) (hn17 : n ≤ 17592186044416) (sk : Int) :
    Calls Try.prog 3 #[pv, .int .i64 sk, bv] V fun e w' => e = .returned (.bool true) ∧ Below V.heap.size V w' := by
  have FP := hp
  have FI := hb
  by_cases hk1 : sk < 0
  · go_enter Try.func3, Try.ntmps3
    refine wp_seq ?_
    refine wp_region_sqK 105 [(0, 6)] (fun i_ => match i_ with | 0 => .bool false | _ => undef) rfl (by kernel_rfl) (by decide) (by decide) ?_ ?_
    · intro i_ hi_ a hf hv hn
      match i_, hi_ with
      | 0, _ => exact stepV rfl rfl (execAsgB rfl rfl) ⟨⟨_, rfl, rfl⟩, rfl⟩
      | k_ + 1, h_ => exact absurd h_ (by simp)
    intro a h1 h2 h3 h4
    have t0 : a.eval (.tmp 0) = pv := (h3 0 (by decide)).trans rfl
    have t1 : a.eval (.tmp 1) = .int .i64 sk := (h3 1 (by decide)).trans rfl
    have t2 : a.eval (.tmp 2) = bv := (h3 2 (by decide)).trans rfl
    have A : a.tmps.size = 105 ∧ a.defers = [] := ⟨h1, h2⟩
    have BW : Below V.heap.size V V := Below.refl _ _
    clear h1 h2 h3 h4
    refine wp_seq ?_
    refine wp_seq ?_
    refine wp_region_sq (σ := Unit) 105 [(0, 18), (1, 19)] (fun j_ s X => match j_ with | 0 => Below V.heap.size V X | 1 => Below V.heap.size V X | _ => Below V.heap.size V X) (fun s => fun i_ => match i_ with | 0 => .bool true | 1 => .bool false | _ => undef) () A.1 (by kernel_rfl) (by decide) (by decide) (Below.refl _ _) ?_ ?_
    · intro i_ hi_ s a X hf hv hn hS
      match i_, hi_ with
      | 0, _ => exact stepC rfl rfl (execCall0 Try.func9 (by kernel_rfl) (by kernel_rfl) rfl ) (alive10 I X) fun e w' hh => ⟨_, hh.1, s, ⟨_, rfl, rfl⟩, (hS).trans ((hh.2).mono (hS).size), fun _ _ => rfl⟩
      | 1, _ => exact stepV rfl rfl (execNot8 rfl (hv 0 (by omega) _ rfl _ rfl)) ⟨s, ⟨_, rfl, rfl⟩, hS, fun _ _ => rfl⟩
      | k_ + 2, h_ => exact absurd h_ (by simp)
    rintro _ a X1 h1 h2 h3 h4 hS
    replace hS : Below V.heap.size V X1 := hS
    have bX := hS
    clear hS
    replace t0 := (h3 0 (by decide)).trans t0
    replace t1 := (h3 1 (by decide)).trans t1
    replace t2 := (h3 2 (by decide)).trans t2
    have t19 : a.eval (.tmp 19) = .bool false := h4 1 _ rfl _ rfl
    replace FP := (FP.on bX)
    replace FI := (FI.on bX)
    have ZX1 := bX.size
    replace BW := BW.trans (bX.mono BW.size)
    clear bX
    replace A := (⟨h1, h2.trans A.2⟩ : a.tmps.size = 105 ∧ a.defers = [])
    clear h1 h2 h3 h4
    refine wp_cond_false t19 ?_
    refine wp_skip ?_
    clear t19
    refine wp_seq ?_
    refine wp_seq ?_
    refine wp_region_sq (σ := Unit) 105 [(0, 20), (1, 21), (2, 22), (3, 23), (4, 24), (5, 25), (6, 26), (7, 27)] (fun j_ s X => match j_ with | 0 => Below X1.heap.size X1 X | 1 => Below X1.heap.size X1 X | 2 => Below X1.heap.size X1 X | 3 => Below X1.heap.size X1 X | 4 => Below X1.heap.size X1 X | 5 => Below X1.heap.size X1 X | 6 => Below X1.heap.size X1 X | 7 => Below X1.heap.size X1 X | _ => Below X1.heap.size X1 X) (fun s => fun i_ => match i_ with | 0 => .int .i64 sk | 1 => .bool true | 2 => .bool true | 3 => undef | 4 => undef | 5 => undef | 6 => undef | 7 => .bool true | _ => undef) () A.1 (by kernel_rfl) (by decide) (by decide) (Below.refl _ _) ?_ ?_
    · intro i_ hi_ s a X hf hv hn hS
      match i_, hi_ with
      | 0, _ => exact stepV rfl rfl (execMvB rfl ((hf 1 (by decide)).trans t1)) ⟨s, ⟨_, rfl, rfl⟩, hS, fun _ _ => rfl⟩
      | 1, _ => exact stepV rfl rfl (execLtCt (p := sk) (q := 0) rfl (hv 0 (by omega) _ rfl _ rfl) hk1) ⟨s, ⟨_, rfl, rfl⟩, hS, fun _ _ => rfl⟩
      | 2, _ => exact stepV rfl rfl (execMvB rfl (hv 1 (by omega) _ rfl _ rfl)) ⟨s, ⟨_, rfl, rfl⟩, hS, fun _ _ => rfl⟩
      | 3, _ => exact stepU rfl (unwantedOf rfl (yieldedAt rfl rfl (show a.eval (.tmp 22) = .bool (!false) from (hv 2 (by omega) _ rfl _ rfl)))) ⟨s, ⟨_, rfl, rfl⟩, hS, fun _ _ => rfl⟩
      | 4, _ => exact stepU rfl (unwantedOf rfl (yieldedAt rfl rfl (show a.eval (.tmp 22) = .bool (!false) from (hv 2 (by omega) _ rfl _ rfl)))) ⟨s, ⟨_, rfl, rfl⟩, hS, fun _ _ => rfl⟩
      | 5, _ => exact stepU rfl (unwantedOf rfl (yieldedAt rfl rfl (show a.eval (.tmp 22) = .bool (!false) from (hv 2 (by omega) _ rfl _ rfl)))) ⟨s, ⟨_, rfl, rfl⟩, hS, fun _ _ => rfl⟩
      | 6, _ => exact stepU rfl (unwantedOf rfl (yieldedAt rfl rfl (show a.eval (.tmp 22) = .bool (!false) from (hv 2 (by omega) _ rfl _ rfl)))) ⟨s, ⟨_, rfl, rfl⟩, hS, fun _ _ => rfl⟩
      | 7, _ => exact stepV rfl rfl (execPickT rfl (hv 2 (by omega) _ rfl _ rfl) rfl) ⟨s, ⟨_, rfl, rfl⟩, hS, fun _ _ => rfl⟩
      | k_ + 8, h_ => exact absurd h_ (by simp)
    rintro _ a X3 h1 h2 h3 h4 hS
    replace hS : Below X1.heap.size X1 X3 := hS
    have bX := hS
    clear hS
    replace t0 := (h3 0 (by decide)).trans t0
    replace t1 := (h3 1 (by decide)).trans t1
    replace t2 := (h3 2 (by decide)).trans t2
    have t27 : a.eval (.tmp 27) = .bool true := h4 7 _ rfl _ rfl
    replace FP := (FP.on bX)
    replace FI := (FI.on bX)
    have ZX3 := bX.size
    replace BW := BW.trans (bX.mono BW.size)
    clear bX
    replace A := (⟨h1, h2.trans A.2⟩ : a.tmps.size = 105 ∧ a.defers = [])
    clear h1 h2 h3 h4
    refine wp_cond_true t27 ?_
    clear t27
    refine wp_region_sq (σ := Unit) 105 [(0, 1)] (fun j_ s X => match j_ with | 0 => Below X3.heap.size X3 X | _ => Below X3.heap.size X3 X) (fun s => fun i_ => match i_ with | 0 => .int .i64 ((0 : Nat) : Int) | _ => undef) () A.1 (by kernel_rfl) (by decide) (by decide) (Below.refl _ _) ?_ ?_
    · intro i_ hi_ s a X hf hv hn hS
      match i_, hi_ with
      | 0, _ => exact stepV rfl rfl (execAsgB rfl rfl) ⟨s, ⟨_, rfl, rfl⟩, hS, fun _ _ => rfl⟩
      | k_ + 1, h_ => exact absurd h_ (by simp)
    rintro _ a X4 h1 h2 h3 h4 hS
    replace hS : Below X3.heap.size X3 X4 := hS
    have bX := hS
    clear hS
    replace t0 := (h3 0 (by decide)).trans t0
    replace t1 : a.eval (.tmp 1) = .int .i64 ((0 : Nat) : Int) := h4 0 _ rfl _ rfl
    replace t2 := (h3 2 (by decide)).trans t2
    replace FP := (FP.on bX)
    replace FI := (FI.on bX)
    have ZX4 := bX.size
    replace BW := BW.trans (bX.mono BW.size)
    clear bX
    replace A := (⟨h1, h2.trans A.2⟩ : a.tmps.size = 105 ∧ a.defers = [])
    clear h1 h2 h3 h4
    exact belows_from5 I p l bs n pv bv V hp hl hb hn17 0 (Nat.zero_le _) _ BW FP FI a A t0 t1 t2
  · by_cases hk2 : (l : Int) < sk
    · go_enter Try.func3, Try.ntmps3
      refine wp_seq ?_
      refine wp_region_sqK 105 [(0, 6)] (fun i_ => match i_ with | 0 => .bool false | _ => undef) rfl (by kernel_rfl) (by decide) (by decide) ?_ ?_
      · intro i_ hi_ a hf hv hn
        match i_, hi_ with
        | 0, _ => exact stepV rfl rfl (execAsgB rfl rfl) ⟨⟨_, rfl, rfl⟩, rfl⟩
        | k_ + 1, h_ => exact absurd h_ (by simp)
      intro a h1 h2 h3 h4
      have t0 : a.eval (.tmp 0) = pv := (h3 0 (by decide)).trans rfl
      have t1 : a.eval (.tmp 1) = .int .i64 sk := (h3 1 (by decide)).trans rfl
      have t2 : a.eval (.tmp 2) = bv := (h3 2 (by decide)).trans rfl
      have A : a.tmps.size = 105 ∧ a.defers = [] := ⟨h1, h2⟩
      have BW : Below V.heap.size V V := Below.refl _ _
      clear h1 h2 h3 h4
      refine wp_seq ?_
      refine wp_seq ?_
      refine wp_region_sq (σ := Unit) 105 [(0, 18), (1, 19)] (fun j_ s X => match j_ with | 0 => Below V.heap.size V X | 1 => Below V.heap.size V X | _ => Below V.heap.size V X) (fun s => fun i_ => match i_ with | 0 => .bool true | 1 => .bool false | _ => undef) () A.1 (by kernel_rfl) (by decide) (by decide) (Below.refl _ _) ?_ ?_
      · intro i_ hi_ s a X hf hv hn hS
        match i_, hi_ with
        | 0, _ => exact stepC rfl rfl (execCall0 Try.func9 (by kernel_rfl) (by kernel_rfl) rfl ) (alive10 I X) fun e w' hh => ⟨_, hh.1, s, ⟨_, rfl, rfl⟩, (hS).trans ((hh.2).mono (hS).size), fun _ _ => rfl⟩
        | 1, _ => exact stepV rfl rfl (execNot8 rfl (hv 0 (by omega) _ rfl _ rfl)) ⟨s, ⟨_, rfl, rfl⟩, hS, fun _ _ => rfl⟩
        | k_ + 2, h_ => exact absurd h_ (by simp)
      rintro _ a X1 h1 h2 h3 h4 hS
      replace hS : Below V.heap.size V X1 := hS
      have bX := hS
      clear hS
      replace t0 := (h3 0 (by decide)).trans t0
      replace t1 := (h3 1 (by decide)).trans t1
      replace t2 := (h3 2 (by decide)).trans t2
      have t19 : a.eval (.tmp 19) = .bool false := h4 1 _ rfl _ rfl
      replace FP := (FP.on bX)
      replace FI := (FI.on bX)
      have ZX1 := bX.size
      replace BW := BW.trans (bX.mono BW.size)
      clear bX
      replace A := (⟨h1, h2.trans A.2⟩ : a.tmps.size = 105 ∧ a.defers = [])
      clear h1 h2 h3 h4
      refine wp_cond_false t19 ?_
      refine wp_skip ?_
      clear t19
      refine wp_seq ?_
      refine wp_seq ?_
      refine wp_region_sq (σ := Unit) 105 [(0, 20), (1, 21), (2, 22), (3, 23), (4, 24), (5, 25), (6, 26), (7, 27)] (fun j_ s X => match j_ with | 0 => Below X1.heap.size X1 X | 1 => Below X1.heap.size X1 X | 2 => Below X1.heap.size X1 X | 3 => Below X1.heap.size X1 X | 4 => Below X1.heap.size X1 X | 5 => Below X1.heap.size X1 X | 6 => Below X1.heap.size X1 X | 7 => Below X1.heap.size X1 X | _ => Below X1.heap.size X1 X) (fun s => fun i_ => match i_ with | 0 => .int .i64 sk | 1 => .bool false | 2 => .bool false | 3 => .int .i64 sk | 4 => pv | 5 => .int .i64 ((l : Nat) : Int) | 6 => .bool true | 7 => .bool true | _ => undef) () A.1 (by kernel_rfl) (by decide) (by decide) (Below.refl _ _) ?_ ?_
      · intro i_ hi_ s a X hf hv hn hS
        match i_, hi_ with
        | 0, _ => exact stepV rfl rfl (execMvB rfl ((hf 1 (by decide)).trans t1)) ⟨s, ⟨_, rfl, rfl⟩, hS, fun _ _ => rfl⟩
        | 1, _ => exact stepV rfl rfl (execLtCf (p := sk) (q := 0) rfl (hv 0 (by omega) _ rfl _ rfl) hk1) ⟨s, ⟨_, rfl, rfl⟩, hS, fun _ _ => rfl⟩
        | 2, _ => exact stepV rfl rfl (execMvB rfl (hv 1 (by omega) _ rfl _ rfl)) ⟨s, ⟨_, rfl, rfl⟩, hS, fun _ _ => rfl⟩
        | 3, _ => exact stepV rfl (wantedOf rfl (yieldedAt rfl rfl (show a.eval (.tmp 22) = .bool false from (hv 2 (by omega) _ rfl _ rfl)))) (execMvB rfl ((hf 1 (by decide)).trans t1)) ⟨s, ⟨_, rfl, rfl⟩, hS, fun _ _ => rfl⟩
        | 4, _ => exact stepV rfl (wantedOf rfl (yieldedAt rfl rfl (show a.eval (.tmp 22) = .bool false from (hv 2 (by omega) _ rfl _ rfl)))) (execMvB rfl ((hf 0 (by decide)).trans t0)) ⟨s, ⟨_, rfl, rfl⟩, hS, fun _ _ => rfl⟩
        | 5, _ => exact stepV rfl (wantedOf rfl (yieldedAt rfl rfl (show a.eval (.tmp 22) = .bool false from (hv 2 (by omega) _ rfl _ rfl)))) (execLenV (len := l) rfl (hv 4 (by omega) _ rfl _ rfl) (shp9 (FP.on hS))) ⟨s, ⟨_, rfl, rfl⟩, hS, fun _ _ => rfl⟩
        | 6, _ => exact stepV rfl (wantedOf rfl (yieldedAt rfl rfl (show a.eval (.tmp 22) = .bool false from (hv 2 (by omega) _ rfl _ rfl)))) (execGtItD rfl (hv 3 (by omega) _ rfl _ rfl) (hv 5 (by omega) _ rfl _ rfl) hk2) ⟨s, ⟨_, rfl, rfl⟩, hS, fun _ _ => rfl⟩
        | 7, _ => exact stepV rfl rfl (execPickF rfl (hv 2 (by omega) _ rfl _ rfl) (hv 6 (by omega) _ rfl _ rfl)) ⟨s, ⟨_, rfl, rfl⟩, hS, fun _ _ => rfl⟩
        | k_ + 8, h_ => exact absurd h_ (by simp)
      rintro _ a X3 h1 h2 h3 h4 hS
      replace hS : Below X1.heap.size X1 X3 := hS
      have bX := hS
      clear hS
      replace t0 := (h3 0 (by decide)).trans t0
      replace t1 := (h3 1 (by decide)).trans t1
      replace t2 := (h3 2 (by decide)).trans t2
      have t27 : a.eval (.tmp 27) = .bool true := h4 7 _ rfl _ rfl
      replace FP := (FP.on bX)
      replace FI := (FI.on bX)
      have ZX3 := bX.size
      replace BW := BW.trans (bX.mono BW.size)
      clear bX
      replace A := (⟨h1, h2.trans A.2⟩ : a.tmps.size = 105 ∧ a.defers = [])
      clear h1 h2 h3 h4
      refine wp_cond_true t27 ?_
      clear t27
      refine wp_region_sq (σ := Unit) 105 [(0, 1)] (fun j_ s X => match j_ with | 0 => Below X3.heap.size X3 X | _ => Below X3.heap.size X3 X) (fun s => fun i_ => match i_ with | 0 => .int .i64 ((0 : Nat) : Int) | _ => undef) () A.1 (by kernel_rfl) (by decide) (by decide) (Below.refl _ _) ?_ ?_
      · intro i_ hi_ s a X hf hv hn hS
        match i_, hi_ with
        | 0, _ => exact stepV rfl rfl (execAsgB rfl rfl) ⟨s, ⟨_, rfl, rfl⟩, hS, fun _ _ => rfl⟩
        | k_ + 1, h_ => exact absurd h_ (by simp)
      rintro _ a X4 h1 h2 h3 h4 hS
      replace hS : Below X3.heap.size X3 X4 := hS
      have bX := hS
      clear hS
      replace t0 := (h3 0 (by decide)).trans t0
      replace t1 : a.eval (.tmp 1) = .int .i64 ((0 : Nat) : Int) := h4 0 _ rfl _ rfl
      replace t2 := (h3 2 (by decide)).trans t2
      replace FP := (FP.on bX)
      replace FI := (FI.on bX)
      have ZX4 := bX.size
      replace BW := BW.trans (bX.mono BW.size)
      clear bX
      replace A := (⟨h1, h2.trans A.2⟩ : a.tmps.size = 105 ∧ a.defers = [])
      clear h1 h2 h3 h4
      exact belows_from5 I p l bs n pv bv V hp hl hb hn17 0 (Nat.zero_le _) _ BW FP FI a A t0 t1 t2
    · obtain ⟨s0, es⟩ : ∃ s0 : Nat, sk = s0 := ⟨sk.toNat, by omega⟩
      go_enter Try.func3, Try.ntmps3
      refine wp_seq ?_
      refine wp_region_sqK 105 [(0, 6)] (fun i_ => match i_ with | 0 => .bool false | _ => undef) rfl (by kernel_rfl) (by decide) (by decide) ?_ ?_
      · intro i_ hi_ a hf hv hn
        match i_, hi_ with
        | 0, _ => exact stepV rfl rfl (execAsgB rfl rfl) ⟨⟨_, rfl, rfl⟩, rfl⟩
        | k_ + 1, h_ => exact absurd h_ (by simp)
      intro a h1 h2 h3 h4
      have t0 : a.eval (.tmp 0) = pv := (h3 0 (by decide)).trans rfl
      have t1 : a.eval (.tmp 1) = .int .i64 sk := (h3 1 (by decide)).trans rfl
      have t2 : a.eval (.tmp 2) = bv := (h3 2 (by decide)).trans rfl
      have A : a.tmps.size = 105 ∧ a.defers = [] := ⟨h1, h2⟩
      have BW : Below V.heap.size V V := Below.refl _ _
      clear h1 h2 h3 h4
      refine wp_seq ?_
      refine wp_seq ?_
      refine wp_region_sq (σ := Unit) 105 [(0, 18), (1, 19)] (fun j_ s X => match j_ with | 0 => Below V.heap.size V X | 1 => Below V.heap.size V X | _ => Below V.heap.size V X) (fun s => fun i_ => match i_ with | 0 => .bool true | 1 => .bool false | _ => undef) () A.1 (by kernel_rfl) (by decide) (by decide) (Below.refl _ _) ?_ ?_
      · intro i_ hi_ s a X hf hv hn hS
        match i_, hi_ with
        | 0, _ => exact stepC rfl rfl (execCall0 Try.func9 (by kernel_rfl) (by kernel_rfl) rfl ) (alive10 I X) fun e w' hh => ⟨_, hh.1, s, ⟨_, rfl, rfl⟩, (hS).trans ((hh.2).mono (hS).size), fun _ _ => rfl⟩
        | 1, _ => exact stepV rfl rfl (execNot8 rfl (hv 0 (by omega) _ rfl _ rfl)) ⟨s, ⟨_, rfl, rfl⟩, hS, fun _ _ => rfl⟩
        | k_ + 2, h_ => exact absurd h_ (by simp)
      rintro _ a X1 h1 h2 h3 h4 hS
      replace hS : Below V.heap.size V X1 := hS
      have bX := hS
      clear hS
      replace t0 := (h3 0 (by decide)).trans t0
      replace t1 := (h3 1 (by decide)).trans t1
      replace t2 := (h3 2 (by decide)).trans t2
      have t19 : a.eval (.tmp 19) = .bool false := h4 1 _ rfl _ rfl
      replace FP := (FP.on bX)
      replace FI := (FI.on bX)
      have ZX1 := bX.size
      replace BW := BW.trans (bX.mono BW.size)
      clear bX
      replace A := (⟨h1, h2.trans A.2⟩ : a.tmps.size = 105 ∧ a.defers = [])
      clear h1 h2 h3 h4
      refine wp_cond_false t19 ?_
      refine wp_skip ?_
      clear t19
      refine wp_seq ?_
      refine wp_seq ?_
      refine wp_region_sq (σ := Unit) 105 [(0, 20), (1, 21), (2, 22), (3, 23), (4, 24), (5, 25), (6, 26), (7, 27)] (fun j_ s X => match j_ with | 0 => Below X1.heap.size X1 X | 1 => Below X1.heap.size X1 X | 2 => Below X1.heap.size X1 X | 3 => Below X1.heap.size X1 X | 4 => Below X1.heap.size X1 X | 5 => Below X1.heap.size X1 X | 6 => Below X1.heap.size X1 X | 7 => Below X1.heap.size X1 X | _ => Below X1.heap.size X1 X) (fun s => fun i_ => match i_ with | 0 => .int .i64 sk | 1 => .bool false | 2 => .bool false | 3 => .int .i64 sk | 4 => pv | 5 => .int .i64 ((l : Nat) : Int) | 6 => .bool false | 7 => .bool false | _ => undef) () A.1 (by kernel_rfl) (by decide) (by decide) (Below.refl _ _) ?_ ?_
      · intro i_ hi_ s a X hf hv hn hS
        match i_, hi_ with
        | 0, _ => exact stepV rfl rfl (execMvB rfl ((hf 1 (by decide)).trans t1)) ⟨s, ⟨_, rfl, rfl⟩, hS, fun _ _ => rfl⟩
        | 1, _ => exact stepV rfl rfl (execLtCf (p := sk) (q := 0) rfl (hv 0 (by omega) _ rfl _ rfl) hk1) ⟨s, ⟨_, rfl, rfl⟩, hS, fun _ _ => rfl⟩
        | 2, _ => exact stepV rfl rfl (execMvB rfl (hv 1 (by omega) _ rfl _ rfl)) ⟨s, ⟨_, rfl, rfl⟩, hS, fun _ _ => rfl⟩
        | 3, _ => exact stepV rfl (wantedOf rfl (yieldedAt rfl rfl (show a.eval (.tmp 22) = .bool false from (hv 2 (by omega) _ rfl _ rfl)))) (execMvB rfl ((hf 1 (by decide)).trans t1)) ⟨s, ⟨_, rfl, rfl⟩, hS, fun _ _ => rfl⟩
        | 4, _ => exact stepV rfl (wantedOf rfl (yieldedAt rfl rfl (show a.eval (.tmp 22) = .bool false from (hv 2 (by omega) _ rfl _ rfl)))) (execMvB rfl ((hf 0 (by decide)).trans t0)) ⟨s, ⟨_, rfl, rfl⟩, hS, fun _ _ => rfl⟩
        | 5, _ => exact stepV rfl (wantedOf rfl (yieldedAt rfl rfl (show a.eval (.tmp 22) = .bool false from (hv 2 (by omega) _ rfl _ rfl)))) (execLenV (len := l) rfl (hv 4 (by omega) _ rfl _ rfl) (shp9 (FP.on hS))) ⟨s, ⟨_, rfl, rfl⟩, hS, fun _ _ => rfl⟩
        | 6, _ => exact stepV rfl (wantedOf rfl (yieldedAt rfl rfl (show a.eval (.tmp 22) = .bool false from (hv 2 (by omega) _ rfl _ rfl)))) (execGtIfD rfl (hv 3 (by omega) _ rfl _ rfl) (hv 5 (by omega) _ rfl _ rfl) hk2) ⟨s, ⟨_, rfl, rfl⟩, hS, fun _ _ => rfl⟩
        | 7, _ => exact stepV rfl rfl (execPickF rfl (hv 2 (by omega) _ rfl _ rfl) (hv 6 (by omega) _ rfl _ rfl)) ⟨s, ⟨_, rfl, rfl⟩, hS, fun _ _ => rfl⟩
        | k_ + 8, h_ => exact absurd h_ (by simp)
      rintro _ a X3 h1 h2 h3 h4 hS
      replace hS : Below X1.heap.size X1 X3 := hS
      have bX := hS
      clear hS
      replace t0 := (h3 0 (by decide)).trans t0
      replace t1 := (h3 1 (by decide)).trans t1
      replace t2 := (h3 2 (by decide)).trans t2
      have t27 : a.eval (.tmp 27) = .bool false := h4 7 _ rfl _ rfl
      replace FP := (FP.on bX)
      replace FI := (FI.on bX)
      have ZX3 := bX.size
      replace BW := BW.trans (bX.mono BW.size)
      clear bX
      replace A := (⟨h1, h2.trans A.2⟩ : a.tmps.size = 105 ∧ a.defers = [])
      clear h1 h2 h3 h4
      refine wp_cond_false t27 ?_
      refine wp_skip ?_
      clear t27
      rw [es] at t1
      exact belows_from5 I p l bs n pv bv V hp hl hb hn17 s0 (by omega) _ BW FP FI a A t0 t1 t2
end Go.Proofs.Ytpclecbhfjalnaa.Drw
