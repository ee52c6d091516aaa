import Derived.Test.YthiakjmjpchckaaP9h
namespace Go.Proofs.Ythiakjmjpchckaa.Prm
open Go.RowKit Gf8 Aes By8 Cel Cf Tap Drw
/- The law's less; PermRises over any Impl. Written by tools/mkP9i.py. -/

theorem execNeIgt {o : Oper} {a : Act} {w : World} {x y : Operand} {p q : Int} (ho : o.op = .binOp .neq 3 x y 3) (hx : a.eval x = .int .i64 p) (hy : a.eval y = .int .i64 q) (h : ¬ p = q) : (execOp a.eval o).run Try.prog w = .ok (.value (.bool true)) w := by
  unfold execOp
  simp only [ho, hx, hy]
  simp [go_sem, h]
theorem execNeIgf {o : Oper} {a : Act} {w : World} {x y : Operand} {p q : Int} (ho : o.op = .binOp .neq 3 x y 3) (hx : a.eval x = .int .i64 p) (hy : a.eval y = .int .i64 q) (h : p = q) : (execOp a.eval o).run Try.prog w = .ok (.value (.bool false)) w := by
  unfold execOp
  simp only [ho, hx, hy]
  simp [go_sem, h]
theorem execEqBl {o : Oper} {a : Act} {w : World} {x y : Operand} {p q : Bool} (ho : o.op = .binOp .eql 4 x y 4) (hx : a.eval x = .bool p) (hy : a.eval y = .bool q) (h : p = q) : (execOp a.eval o).run Try.prog w = .ok (.value (.bool true)) w := by
  subst h
  unfold execOp
  simp only [ho, hx, hy]
  cases p <;> simp [go_sem]
theorem lsF_cg {f g f' g' : Nat → Int} : ∀ {m i}, (∀ j, i ≤ j → j < i + m → f j = f' j ∧ g j = g' j) → lsF f g i m = lsF f' g' i m
  | 0, _, _ => rfl
  | m + 1, i, h => by
    have h0 := h i (Nat.le_refl _) (by omega)
    show (if f i = g i then lsF f g (i + 1) m else decide (f i < g i)) = (if f' i = g' i then lsF f' g' (i + 1) m else decide (f' i < g' i))
    rw [h0.1, h0.2, lsF_cg (m := m) (i := i + 1) (fun j h1 h2 => h j (by omega) (by omega))]
theorem rises_int {f g : Nat → Int} {n : Nat} (hf : pE f n = 0) (hg : pE g n = 0) : lsF f g 0 n = lsF (fun j => (rkD (gN f) n j : Int)) (fun j => (rkD (gN g) n j : Int)) 0 n := by
  have hpf := pE_0 hf
  have hpg := pE_0 hg
  refine Eq.trans ?_ (rises (p := gN f) (q := gN g) (isP_of hpf) (isP_of hpg) n 0 (by omega) (fun j hj => by omega))
  refine lsF_cg fun j _ hj => ⟨?_, ?_⟩
  · have := (okQ_iff.1 hpf).1 j (by omega)
    show f j = ((f j).toNat : Int)
    omega
  · have := (okQ_iff.1 hpg).1 j (by omega)
    show g j = ((g j).toNat : Int)
    omega
set_option maxRecDepth 100000 in
set_option maxHeartbeats 4000000 in
/-- The law's less, of lists of one length. -/
theorem less_any (f g : Nat → Int) (n : Nat) (v u : Value) (V : World) (hv : SliceI V v n f) (hu : SliceI V u n g) (hn17 : n ≤ 17592186044416) :
    Calls Try.prog 32 #[v, u] V fun e w' => e = .returned (.bool (lsF f g 0 n)) ∧ Below V.heap.size V w' := by
  obtain ⟨ia, ic, rfl, -, -, hsh⟩ := id hv.shape
  obtain ⟨ja, jc, rfl, -, -, hsj⟩ := id hu.shape
  have FI := hv
  have FJ := hu
  go_enter Try.func32, Try.ntmps32
  refine wp_seq ?_
  refine wp_region_sqK 36 [(0, 4)] (fun i_ => match i_ with | 0 => .bool false | _ => undef) rfl (by kernel_rfl) (by decide) (by decide) ?_ ?_
  · intro i_ hi_ a hf hv hn
    match i_, hi_ with
    | 0, _ => exact stepV rfl rfl (execAsgB rfl rfl) ⟨⟨_, rfl, rfl⟩, rfl⟩
    | k_ + 1, h_ => exact absurd h_ (by simp)
  intro a h1 h2 h3 h4
  have t0 : a.eval (.tmp 0) = .slice ia n ic := (h3 0 (by decide)).trans rfl
  have t1 : a.eval (.tmp 1) = .slice ja n jc := (h3 1 (by decide)).trans rfl
  have A : a.tmps.size = 36 ∧ a.defers = [] := ⟨h1, h2⟩
  have BW : Below V.heap.size V V := Below.refl _ _
  clear h1 h2 h3 h4
  have BB := BW
  refine wp_seq ?_
  refine wp_seq ?_
  refine wp_region_sq (σ := Unit) 36 [(0, 5)] (fun j_ s X => match j_ with | 0 => Below V.heap.size V X | _ => Below V.heap.size V X) (fun s => fun i_ => match i_ with | 0 => .int .i64 ((0 : Nat) : Int) | _ => undef) () A.1 (by kernel_rfl) (by decide) (by decide) (BB) ?_ ?_
  · intro i_ hi_ s a X hf hv hn hS
    match i_, hi_ with
    | 0, _ => exact stepV rfl rfl (execAsgB rfl rfl) ⟨s, ⟨_, rfl, rfl⟩, hS, fun _ _ => rfl⟩
    | k_ + 1, h_ => exact absurd h_ (by simp)
  rintro _ a X1 h1 h2 h3 h4 hS
  clear BB
  replace hS : Below V.heap.size V X1 := hS
  have BB := hS
  clear hS
  replace t0 := (h3 0 (by decide)).trans t0
  replace t1 := (h3 1 (by decide)).trans t1
  have t5 : a.eval (.tmp 5) = .int .i64 ((0 : Nat) : Int) := h4 0 _ rfl _ rfl
  replace A := (⟨h1, h2.trans A.2⟩ : a.tmps.size = 36 ∧ a.defers = [])
  clear h1 h2 h3 h4
  refine wp_block ?_
  refine wp_loop (fun a W => ∃ i : Nat, i ≤ n ∧ lsF f g i (n - i) = lsF f g 0 n ∧ (a.tmps.size = 36 ∧ a.defers = []) ∧ a.eval (.tmp 0) = .slice ia n ic ∧ a.eval (.tmp 1) = .slice ja n jc ∧ a.eval (.tmp 5) = .int .i64 ((i : Nat) : Int) ∧ Below V.heap.size V W) (fun a _ => n - (intOf (a.eval (.tmp 5))).toNat) ⟨0, Nat.zero_le _, rfl, A, t0, t1, t5, BB⟩ ?_
  clear A t0 t1 t5 BB a
  rintro a XL ⟨i, hi, hls, A, t0, t1, t5, BB⟩
  have e5 := t5
  refine wp_seq ?_
  refine wp_seq ?_
  by_cases hlt : i < n
  · refine wp_region_sq (σ := Unit) 36 [(0, 6), (1, 7), (2, 8), (3, 9), (4, 10), (5, 11), (6, 12), (7, 13), (8, 14), (9, 15)] (fun j_ s X => match j_ with | 0 => Below V.heap.size V X | 1 => Below V.heap.size V X | 2 => Below V.heap.size V X | 3 => Below V.heap.size V X | 4 => Below V.heap.size V X | 5 => Below V.heap.size V X | 6 => Below V.heap.size V X | 7 => Below V.heap.size V X | 8 => Below V.heap.size V X | 9 => Below V.heap.size V X | _ => Below V.heap.size V X) (fun s => fun i_ => match i_ with | 0 => .int .i64 ((i : Nat) : Int) | 1 => .slice ia n ic | 2 => .int .i64 ((n : Nat) : Int) | 3 => .bool true | 4 => .bool true | 5 => .int .i64 ((i : Nat) : Int) | 6 => .slice ja n jc | 7 => .int .i64 ((n : Nat) : Int) | 8 => .bool true | 9 => .bool true | _ => undef) () A.1 (by kernel_rfl) (by decide) (by decide) (BB) ?_ ?_
    · intro i_ hi_ s a X hf hv hn hS
      match i_, hi_ with
      | 0, _ => exact stepV rfl rfl (execMvB rfl ((hf 5 (by decide)).trans t5)) ⟨s, ⟨_, rfl, rfl⟩, hS, fun _ _ => rfl⟩
      | 1, _ => exact stepV rfl rfl (execMvB rfl ((hf 0 (by decide)).trans t0)) ⟨s, ⟨_, rfl, rfl⟩, hS, fun _ _ => rfl⟩
      | 2, _ => exact stepV rfl rfl (execLenI (len := n) rfl (hv 1 (by omega) _ rfl _ rfl) ((FI.on hS)).shp) ⟨s, ⟨_, rfl, rfl⟩, hS, fun _ _ => rfl⟩
      | 3, _ => exact stepV rfl rfl (execDec (execLtW (p := i) (q := n) rfl (hv 0 (by omega) _ rfl _ rfl) (hv 2 (by omega) _ rfl _ rfl)) (decide_eq_true (by exact hlt))) ⟨s, ⟨_, rfl, rfl⟩, hS, fun _ _ => rfl⟩
      | 4, _ => exact stepV rfl rfl (execMvB rfl (hv 3 (by omega) _ rfl _ rfl)) ⟨s, ⟨_, rfl, rfl⟩, hS, fun _ _ => rfl⟩
      | 5, _ => exact stepV rfl (wantedOf rfl (yieldedAt rfl rfl (show a.eval (.tmp 10) = .bool true from (hv 4 (by omega) _ rfl _ rfl)))) (execMvB rfl ((hf 5 (by decide)).trans t5)) ⟨s, ⟨_, rfl, rfl⟩, hS, fun _ _ => rfl⟩
      | 6, _ => exact stepV rfl (wantedOf rfl (yieldedAt rfl rfl (show a.eval (.tmp 10) = .bool true from (hv 4 (by omega) _ rfl _ rfl)))) (execMvB rfl ((hf 1 (by decide)).trans t1)) ⟨s, ⟨_, rfl, rfl⟩, hS, fun _ _ => rfl⟩
      | 7, _ => exact stepV rfl (wantedOf rfl (yieldedAt rfl rfl (show a.eval (.tmp 10) = .bool true from (hv 4 (by omega) _ rfl _ rfl)))) (execLenI (len := n) rfl (hv 6 (by omega) _ rfl _ rfl) ((FJ.on hS)).shp) ⟨s, ⟨_, rfl, rfl⟩, hS, fun _ _ => rfl⟩
      | 8, _ => exact stepV rfl (wantedOf rfl (yieldedAt rfl rfl (show a.eval (.tmp 10) = .bool true from (hv 4 (by omega) _ rfl _ rfl)))) (execDec (execLtW (p := i) (q := n) rfl (hv 5 (by omega) _ rfl _ rfl) (hv 7 (by omega) _ rfl _ rfl)) (decide_eq_true (by exact hlt))) ⟨s, ⟨_, rfl, rfl⟩, hS, fun _ _ => rfl⟩
      | 9, _ => exact stepV rfl rfl (execPickT rfl (hv 4 (by omega) _ rfl _ rfl) (hv 8 (by omega) _ rfl _ rfl)) ⟨s, ⟨_, rfl, rfl⟩, hS, fun _ _ => rfl⟩
      | k_ + 10, h_ => exact absurd h_ (by simp)
    rintro _ a X2 h1 h2 h3 h4 hS
    clear BB
    replace hS : Below V.heap.size V X2 := hS
    have BB := hS
    clear hS
    replace t0 := (h3 0 (by decide)).trans t0
    replace t1 := (h3 1 (by decide)).trans t1
    replace t5 := (h3 5 (by decide)).trans t5
    have t15 : a.eval (.tmp 15) = .bool true := h4 9 _ rfl _ rfl
    replace A := (⟨h1, h2.trans A.2⟩ : a.tmps.size = 36 ∧ a.defers = [])
    clear h1 h2 h3 h4
    refine wp_cond_true t15 ?_
    refine wp_skip ?_
    clear t15
    have hst : lsF f g i (n - i) = if f i = g i then lsF f g (i + 1) (n - (i + 1)) else decide (f i < g i) := by rw [show n - i = n - (i + 1) + 1 by omega]; rfl
    rw [hls] at hst
    obtain ⟨ib, io, rfl, hib, hcell⟩ := hsh (by omega)
    obtain ⟨jb, jo, rfl, hjb, hcelj⟩ := hsj (by omega)
    have cI : ∀ X, Below V.heap.size V X → X.cell? ⟨ib, io + i, none⟩ = some (.int .i64 (f i)) := fun X hX => by rw [cell_below hX hib]; exact hcell i hlt
    have cJ : ∀ X, Below V.heap.size V X → X.cell? ⟨jb, jo + i, none⟩ = some (.int .i64 (g i)) := fun X hX => by rw [cell_below hX hjb]; exact hcelj i hlt
    refine wp_seq ?_
    refine wp_block ?_
    refine wp_seq ?_
    by_cases he : f i = g i
    · refine wp_region_detA 36 [(0, 18), (1, 19), (2, 20), (3, 21), (4, 22), (5, 23), (6, 24), (7, 25), (8, 26)] (fun i_ => match i_ with | 0 => .slice (some ⟨ib, io, none⟩) n ic | 1 => .int .i64 ((i : Nat) : Int) | 2 => .pointer (some ⟨ib, io + i, none⟩) | 3 => .int .i64 (f i) | 4 => .slice (some ⟨jb, jo, none⟩) n jc | 5 => .int .i64 ((i : Nat) : Int) | 6 => .pointer (some ⟨jb, jo + i, none⟩) | 7 => .int .i64 (g i) | 8 => .bool false | _ => undef) (fun _ X => Below V.heap.size V X) (by kernel_rfl) (by kernel_rfl) A.1 (by kernel_rfl) (by decide) (by decide) BB.drew ?_ ?_
      · intro i_ hi_ l_ a X hl_ hf hdep hl2 hcl hno hT
        match i_, hi_ with
        | 0, _ => exact stepV rfl rfl (execMvB rfl ((hf 0 (by decide)).trans t0)) ⟨⟨_, rfl, rfl⟩, hT⟩
        | 1, _ => exact stepV rfl rfl (execMvB rfl ((hf 5 (by decide)).trans t5)) ⟨⟨_, rfl, rfl⟩, hT⟩
        | 2, _ => exact stepV rfl rfl (execIdxN (k := i) rfl (hdep _ rfl 0 rfl _ rfl _ rfl) (hdep _ rfl 1 rfl _ rfl _ rfl) hlt) ⟨⟨_, rfl, rfl⟩, hT⟩
        | 3, _ => exact stepV rfl rfl (execLd3 rfl (hdep _ rfl 2 rfl _ rfl _ rfl) (cI X hT)) ⟨⟨_, rfl, rfl⟩, hT⟩
        | 4, _ => exact stepV rfl rfl (execMvB rfl ((hf 1 (by decide)).trans t1)) ⟨⟨_, rfl, rfl⟩, hT⟩
        | 5, _ => exact stepV rfl rfl (execMvB rfl ((hf 5 (by decide)).trans t5)) ⟨⟨_, rfl, rfl⟩, hT⟩
        | 6, _ => exact stepV rfl rfl (execIdxN (k := i) rfl (hdep _ rfl 4 rfl _ rfl _ rfl) (hdep _ rfl 5 rfl _ rfl _ rfl) hlt) ⟨⟨_, rfl, rfl⟩, hT⟩
        | 7, _ => exact stepV rfl rfl (execLd3 rfl (hdep _ rfl 6 rfl _ rfl _ rfl) (cJ X hT)) ⟨⟨_, rfl, rfl⟩, hT⟩
        | 8, _ => exact stepV rfl rfl (execNeIgf rfl (hdep _ rfl 3 rfl _ rfl _ rfl) (hdep _ rfl 7 rfl _ rfl _ rfl) he) ⟨⟨_, rfl, rfl⟩, hT⟩
        | k_ + 9, h_ => exact absurd h_ (by simp)
      intro l_ a X4 h1 h2 h3 h4 hall hT
      clear hall
      clear BB
      have BB := hT
      clear hT
      replace t0 := (h3 0 (by decide)).trans t0
      replace t1 := (h3 1 (by decide)).trans t1
      replace t5 := (h3 5 (by decide)).trans t5
      have t26 : a.eval (.tmp 26) = .bool false := h4 (8, 26) (by decide)
      replace A := (⟨h1, h2.trans A.2⟩ : a.tmps.size = 36 ∧ a.defers = [])
      clear h1 h2 h3 h4
      refine wp_cond_false t26 ?_
      refine wp_skip ?_
      clear t26
      rw [if_pos he] at hst
      refine wp_region_sq (σ := Unit) 36 [(0, 16), (1, 17), (2, 5)] (fun j_ s X => match j_ with | 0 => Below V.heap.size V X | 1 => Below V.heap.size V X | 2 => Below V.heap.size V X | _ => Below V.heap.size V X) (fun s => fun i_ => match i_ with | 0 => .int .i64 ((i : Nat) : Int) | 1 => .int .i64 ((i + 1 : Nat) : Int) | 2 => .int .i64 ((i + 1 : Nat) : Int) | _ => undef) () A.1 (by kernel_rfl) (by decide) (by decide) (BB) ?_ ?_
      · intro i_ hi_ s a X hf hv hn hS
        match i_, hi_ with
        | 0, _ => exact stepV rfl rfl (execMvB rfl ((hn 2 (by omega) _ rfl _ rfl).trans t5)) ⟨s, ⟨_, rfl, rfl⟩, hS, fun _ _ => rfl⟩
        | 1, _ => exact stepV rfl rfl (execAd8 (p := i) (q := 1) rfl (hv 0 (by omega) _ rfl _ rfl) rfl (by omega)) ⟨s, ⟨_, rfl, rfl⟩, hS, fun _ _ => rfl⟩
        | 2, _ => exact stepV rfl rfl (execAsgB rfl (hv 1 (by omega) _ rfl _ rfl)) ⟨s, ⟨_, rfl, rfl⟩, hS, fun _ _ => rfl⟩
        | k_ + 3, h_ => exact absurd h_ (by simp)
      rintro _ a X3 h1 h2 h3 h4 hS
      clear BB
      replace hS : Below V.heap.size V X3 := hS
      have BB := hS
      clear hS
      replace t0 := (h3 0 (by decide)).trans t0
      replace t1 := (h3 1 (by decide)).trans t1
      replace t5 : a.eval (.tmp 5) = .int .i64 ((i + 1 : Nat) : Int) := h4 2 _ rfl _ rfl
      replace A := (⟨h1, h2.trans A.2⟩ : a.tmps.size = 36 ∧ a.defers = [])
      clear h1 h2 h3 h4
      exact ⟨⟨i + 1, hlt, hst.symm, A, t0, t1, t5, BB⟩, by show n - (intOf (a.eval (.tmp 5))).toNat < n - (intOf (Act.eval _ (.tmp 5))).toNat; rw [t5, e5]; show n - (i + 1) < n - i; omega⟩
    · refine wp_region_detA 36 [(0, 18), (1, 19), (2, 20), (3, 21), (4, 22), (5, 23), (6, 24), (7, 25), (8, 26)] (fun i_ => match i_ with | 0 => .slice (some ⟨ib, io, none⟩) n ic | 1 => .int .i64 ((i : Nat) : Int) | 2 => .pointer (some ⟨ib, io + i, none⟩) | 3 => .int .i64 (f i) | 4 => .slice (some ⟨jb, jo, none⟩) n jc | 5 => .int .i64 ((i : Nat) : Int) | 6 => .pointer (some ⟨jb, jo + i, none⟩) | 7 => .int .i64 (g i) | 8 => .bool true | _ => undef) (fun _ X => Below V.heap.size V X) (by kernel_rfl) (by kernel_rfl) A.1 (by kernel_rfl) (by decide) (by decide) BB.drew ?_ ?_
      · intro i_ hi_ l_ a X hl_ hf hdep hl2 hcl hno hT
        match i_, hi_ with
        | 0, _ => exact stepV rfl rfl (execMvB rfl ((hf 0 (by decide)).trans t0)) ⟨⟨_, rfl, rfl⟩, hT⟩
        | 1, _ => exact stepV rfl rfl (execMvB rfl ((hf 5 (by decide)).trans t5)) ⟨⟨_, rfl, rfl⟩, hT⟩
        | 2, _ => exact stepV rfl rfl (execIdxN (k := i) rfl (hdep _ rfl 0 rfl _ rfl _ rfl) (hdep _ rfl 1 rfl _ rfl _ rfl) hlt) ⟨⟨_, rfl, rfl⟩, hT⟩
        | 3, _ => exact stepV rfl rfl (execLd3 rfl (hdep _ rfl 2 rfl _ rfl _ rfl) (cI X hT)) ⟨⟨_, rfl, rfl⟩, hT⟩
        | 4, _ => exact stepV rfl rfl (execMvB rfl ((hf 1 (by decide)).trans t1)) ⟨⟨_, rfl, rfl⟩, hT⟩
        | 5, _ => exact stepV rfl rfl (execMvB rfl ((hf 5 (by decide)).trans t5)) ⟨⟨_, rfl, rfl⟩, hT⟩
        | 6, _ => exact stepV rfl rfl (execIdxN (k := i) rfl (hdep _ rfl 4 rfl _ rfl _ rfl) (hdep _ rfl 5 rfl _ rfl _ rfl) hlt) ⟨⟨_, rfl, rfl⟩, hT⟩
        | 7, _ => exact stepV rfl rfl (execLd3 rfl (hdep _ rfl 6 rfl _ rfl _ rfl) (cJ X hT)) ⟨⟨_, rfl, rfl⟩, hT⟩
        | 8, _ => exact stepV rfl rfl (execNeIgt rfl (hdep _ rfl 3 rfl _ rfl _ rfl) (hdep _ rfl 7 rfl _ rfl _ rfl) he) ⟨⟨_, rfl, rfl⟩, hT⟩
        | k_ + 9, h_ => exact absurd h_ (by simp)
      intro l_ a X4 h1 h2 h3 h4 hall hT
      clear hall
      clear BB
      have BB := hT
      clear hT
      replace t0 := (h3 0 (by decide)).trans t0
      replace t1 := (h3 1 (by decide)).trans t1
      replace t5 := (h3 5 (by decide)).trans t5
      have t26 : a.eval (.tmp 26) = .bool true := h4 (8, 26) (by decide)
      replace A := (⟨h1, h2.trans A.2⟩ : a.tmps.size = 36 ∧ a.defers = [])
      clear h1 h2 h3 h4
      refine wp_cond_true t26 ?_
      refine wp_seq ?_
      clear t26
      rw [if_neg he] at hst
      refine wp_region_detA 36 [(0, 27), (1, 28), (2, 29), (3, 30), (4, 31), (5, 32), (6, 33), (7, 34), (8, 35), (9, 4)] (fun i_ => match i_ with | 0 => .slice (some ⟨ib, io, none⟩) n ic | 1 => .int .i64 ((i : Nat) : Int) | 2 => .pointer (some ⟨ib, io + i, none⟩) | 3 => .int .i64 (f i) | 4 => .slice (some ⟨jb, jo, none⟩) n jc | 5 => .int .i64 ((i : Nat) : Int) | 6 => .pointer (some ⟨jb, jo + i, none⟩) | 7 => .int .i64 (g i) | 8 => .bool (decide (f i < g i)) | 9 => .bool (decide (f i < g i)) | _ => undef) (fun _ X => Below V.heap.size V X) (by kernel_rfl) (by kernel_rfl) A.1 (by kernel_rfl) (by decide) (by decide) BB.drew ?_ ?_
      · intro i_ hi_ l_ a X hl_ hf hdep hl2 hcl hno hT
        match i_, hi_ with
        | 0, _ => exact stepV rfl rfl (execMvB rfl ((hf 0 (by decide)).trans t0)) ⟨⟨_, rfl, rfl⟩, hT⟩
        | 1, _ => exact stepV rfl rfl (execMvB rfl ((hf 5 (by decide)).trans t5)) ⟨⟨_, rfl, rfl⟩, hT⟩
        | 2, _ => exact stepV rfl rfl (execIdxN (k := i) rfl (hdep _ rfl 0 rfl _ rfl _ rfl) (hdep _ rfl 1 rfl _ rfl _ rfl) hlt) ⟨⟨_, rfl, rfl⟩, hT⟩
        | 3, _ => exact stepV rfl rfl (execLd3 rfl (hdep _ rfl 2 rfl _ rfl _ rfl) (cI X hT)) ⟨⟨_, rfl, rfl⟩, hT⟩
        | 4, _ => exact stepV rfl rfl (execMvB rfl ((hf 1 (by decide)).trans t1)) ⟨⟨_, rfl, rfl⟩, hT⟩
        | 5, _ => exact stepV rfl rfl (execMvB rfl ((hf 5 (by decide)).trans t5)) ⟨⟨_, rfl, rfl⟩, hT⟩
        | 6, _ => exact stepV rfl rfl (execIdxN (k := i) rfl (hdep _ rfl 4 rfl _ rfl _ rfl) (hdep _ rfl 5 rfl _ rfl _ rfl) hlt) ⟨⟨_, rfl, rfl⟩, hT⟩
        | 7, _ => exact stepV rfl rfl (execLd3 rfl (hdep _ rfl 6 rfl _ rfl _ rfl) (cJ X hT)) ⟨⟨_, rfl, rfl⟩, hT⟩
        | 8, _ => exact stepV rfl rfl (execLtIg rfl (hdep _ rfl 3 rfl _ rfl _ rfl) (hdep _ rfl 7 rfl _ rfl _ rfl)) ⟨⟨_, rfl, rfl⟩, hT⟩
        | 9, _ => exact stepV rfl rfl (execAsgB rfl (hdep _ rfl 8 rfl _ rfl _ rfl)) ⟨⟨_, rfl, rfl⟩, hT⟩
        | k_ + 10, h_ => exact absurd h_ (by simp)
      intro l_ a X5 h1 h2 h3 h4 hall hT
      clear hall
      clear BB
      have BB := hT
      clear hT
      have t4 : a.eval (.tmp 4) = .bool (decide (f i < g i)) := h4 (9, 4) (by decide)
      replace A := (⟨h1, h2.trans A.2⟩ : a.tmps.size = 36 ∧ a.defers = [])
      clear h1 h2 h3 h4
      clear t0 t1 t5
      rw [hst]
      refine wp_ret ?_
      repeat (first | refine ret_in ?_ | refine ret_then ?_)
      refine bodyPost_ret (results_tmp rfl _ _ _) A.2 ⟨?_, BB⟩
      show Ending.returned (a.eval (.tmp 4)) = _
      rw [t4]
  · refine wp_region_sq (σ := Unit) 36 [(0, 6), (1, 7), (2, 8), (3, 9), (4, 10), (5, 11), (6, 12), (7, 13), (8, 14), (9, 15)] (fun j_ s X => match j_ with | 0 => Below V.heap.size V X | 1 => Below V.heap.size V X | 2 => Below V.heap.size V X | 3 => Below V.heap.size V X | 4 => Below V.heap.size V X | 5 => Below V.heap.size V X | 6 => Below V.heap.size V X | 7 => Below V.heap.size V X | 8 => Below V.heap.size V X | 9 => Below V.heap.size V X | _ => Below V.heap.size V X) (fun s => fun i_ => match i_ with | 0 => .int .i64 ((i : Nat) : Int) | 1 => .slice ia n ic | 2 => .int .i64 ((n : Nat) : Int) | 3 => .bool false | 4 => .bool false | 5 => undef | 6 => undef | 7 => undef | 8 => undef | 9 => .bool false | _ => undef) () A.1 (by kernel_rfl) (by decide) (by decide) (BB) ?_ ?_
    · intro i_ hi_ s a X hf hv hn hS
      match i_, hi_ with
      | 0, _ => exact stepV rfl rfl (execMvB rfl ((hf 5 (by decide)).trans t5)) ⟨s, ⟨_, rfl, rfl⟩, hS, fun _ _ => rfl⟩
      | 1, _ => exact stepV rfl rfl (execMvB rfl ((hf 0 (by decide)).trans t0)) ⟨s, ⟨_, rfl, rfl⟩, hS, fun _ _ => rfl⟩
      | 2, _ => exact stepV rfl rfl (execLenI (len := n) rfl (hv 1 (by omega) _ rfl _ rfl) ((FI.on hS)).shp) ⟨s, ⟨_, rfl, rfl⟩, hS, fun _ _ => rfl⟩
      | 3, _ => exact stepV rfl rfl (execDec (execLtW (p := i) (q := n) rfl (hv 0 (by omega) _ rfl _ rfl) (hv 2 (by omega) _ rfl _ rfl)) (decide_eq_false (by exact hlt))) ⟨s, ⟨_, rfl, rfl⟩, hS, fun _ _ => rfl⟩
      | 4, _ => exact stepV rfl rfl (execMvB rfl (hv 3 (by omega) _ rfl _ rfl)) ⟨s, ⟨_, rfl, rfl⟩, hS, fun _ _ => rfl⟩
      | 5, _ => exact stepU rfl (unwantedOf rfl (yieldedAt rfl rfl (show a.eval (.tmp 10) = .bool (!true) from (hv 4 (by omega) _ rfl _ rfl)))) ⟨s, ⟨_, rfl, rfl⟩, hS, fun _ _ => rfl⟩
      | 6, _ => exact stepU rfl (unwantedOf rfl (yieldedAt rfl rfl (show a.eval (.tmp 10) = .bool (!true) from (hv 4 (by omega) _ rfl _ rfl)))) ⟨s, ⟨_, rfl, rfl⟩, hS, fun _ _ => rfl⟩
      | 7, _ => exact stepU rfl (unwantedOf rfl (yieldedAt rfl rfl (show a.eval (.tmp 10) = .bool (!true) from (hv 4 (by omega) _ rfl _ rfl)))) ⟨s, ⟨_, rfl, rfl⟩, hS, fun _ _ => rfl⟩
      | 8, _ => exact stepU rfl (unwantedOf rfl (yieldedAt rfl rfl (show a.eval (.tmp 10) = .bool (!true) from (hv 4 (by omega) _ rfl _ rfl)))) ⟨s, ⟨_, rfl, rfl⟩, hS, fun _ _ => rfl⟩
      | 9, _ => exact stepV rfl rfl (execPickF rfl (hv 4 (by omega) _ rfl _ rfl) rfl) ⟨s, ⟨_, rfl, rfl⟩, hS, fun _ _ => rfl⟩
      | k_ + 10, h_ => exact absurd h_ (by simp)
    rintro _ a X2 h1 h2 h3 h4 hS
    clear BB
    replace hS : Below V.heap.size V X2 := hS
    have BB := hS
    clear hS
    replace t0 := (h3 0 (by decide)).trans t0
    replace t1 := (h3 1 (by decide)).trans t1
    replace t5 := (h3 5 (by decide)).trans t5
    have t15 : a.eval (.tmp 15) = .bool false := h4 9 _ rfl _ rfl
    replace A := (⟨h1, h2.trans A.2⟩ : a.tmps.size = 36 ∧ a.defers = [])
    clear h1 h2 h3 h4
    refine wp_cond_false t15 ?_
    refine wp_exit ?_
    first | refine exit_in ?_ | refine exit_then (exit_in ?_) | refine exit_then (exit_then (exit_in ?_))
    clear t15
    have hz : lsF f g 0 n = false := by rw [← hls, show n - i = 0 by omega]; rfl
    rw [hz]
    refine wp_seq ?_
    refine wp_region_sq (σ := Unit) 36 [(0, 4)] (fun j_ s X => match j_ with | 0 => Below V.heap.size V X | _ => Below V.heap.size V X) (fun s => fun i_ => match i_ with | 0 => .bool false | _ => undef) () A.1 (by kernel_rfl) (by decide) (by decide) (BB) ?_ ?_
    · intro i_ hi_ s a X hf hv hn hS
      match i_, hi_ with
      | 0, _ => exact stepV rfl rfl (execAsgB rfl rfl) ⟨s, ⟨_, rfl, rfl⟩, hS, fun _ _ => rfl⟩
      | k_ + 1, h_ => exact absurd h_ (by simp)
    rintro _ a X6 h1 h2 h3 h4 hS
    clear BB
    replace hS : Below V.heap.size V X6 := hS
    have BB := hS
    clear hS
    have t4 : a.eval (.tmp 4) = .bool false := h4 0 _ rfl _ rfl
    replace A := (⟨h1, h2.trans A.2⟩ : a.tmps.size = 36 ∧ a.defers = [])
    clear h1 h2 h3 h4
    clear t0 t1 t5
    refine wp_ret ?_
    repeat (first | refine ret_in ?_ | refine ret_then ?_)
    refine bodyPost_ret (results_tmp rfl _ _ _) A.2 ⟨?_, BB⟩
    show Ending.returned (a.eval (.tmp 4)) = _
    rw [t4]
set_option maxRecDepth 100000 in
set_option maxHeartbeats 4000000 in
/-- PermRises. -/
theorem rises_any (I : Impl) (f g : Nat → Int) (n m : Nat) (pv qv : Value) (V : World) (hv0 : SliceI V pv n f) (hn17 : n ≤ 17592186044416) (hw0 : SliceI V qv m g) (hm17 : m ≤ 17592186044416) :
    Calls Try.prog 8 #[pv, qv] V fun e w' => e = .returned (.bool true) ∧ Below V.heap.size V w' := by
  have FI := hv0
  have FJ := hw0
  go_enter Try.func8, Try.ntmps8
  refine wp_seq ?_
  refine wp_region_sqK 50 [(0, 4)] (fun i_ => match i_ with | 0 => .bool false | _ => undef) rfl (by kernel_rfl) (by decide) (by decide) ?_ ?_
  · intro i_ hi_ a hf hv hn
    match i_, hi_ with
    | 0, _ => exact stepV rfl rfl (execAsgB rfl rfl) ⟨⟨_, rfl, rfl⟩, rfl⟩
    | k_ + 1, h_ => exact absurd h_ (by simp)
  intro a h1 h2 h3 h4
  have t0 : a.eval (.tmp 0) = pv := (h3 0 (by decide)).trans rfl
  have t1 : a.eval (.tmp 1) = qv := (h3 1 (by decide)).trans rfl
  have A : a.tmps.size = 50 ∧ a.defers = [] := ⟨h1, h2⟩
  have BW : Below V.heap.size V V := Below.refl _ _
  clear h1 h2 h3 h4
  refine wp_seq ?_
  refine wp_seq ?_
  refine wp_region_sq (σ := Unit) 50 [(0, 9), (1, 10)] (fun j_ s X => match j_ with | 0 => Below V.heap.size V X | 1 => Below V.heap.size V X | _ => Below V.heap.size V X) (fun s => fun i_ => match i_ with | 0 => .bool true | 1 => .bool false | _ => undef) () A.1 (by kernel_rfl) (by decide) (by decide) (Below.refl _ _) ?_ ?_
  · intro i_ hi_ s a X hf hv hn hS
    match i_, hi_ with
    | 0, _ => exact stepC rfl rfl (execCall0 Try.func9 (by kernel_rfl) (by kernel_rfl) rfl ) (awake11 I X) fun e w' hh => ⟨_, hh.1, s, ⟨_, rfl, rfl⟩, (hS).trans ((hh.2).mono (hS).size), fun _ _ => rfl⟩
    | 1, _ => exact stepV rfl rfl (execNot8 rfl (hv 0 (by omega) _ rfl _ rfl)) ⟨s, ⟨_, rfl, rfl⟩, hS, fun _ _ => rfl⟩
    | k_ + 2, h_ => exact absurd h_ (by simp)
  rintro _ a X1 h1 h2 h3 h4 hS
  replace hS : Below V.heap.size V X1 := hS
  have bX := hS
  clear hS
  replace t0 := (h3 0 (by decide)).trans t0
  replace t1 := (h3 1 (by decide)).trans t1
  have t10 : a.eval (.tmp 10) = .bool false := h4 1 _ rfl _ rfl
  replace FI := (FI.on bX)
  replace FJ := (FJ.on bX)
  have ZX1 := bX.size
  replace BW := BW.trans (bX.mono BW.size)
  clear bX
  replace A := (⟨h1, h2.trans A.2⟩ : a.tmps.size = 50 ∧ a.defers = [])
  clear h1 h2 h3 h4
  refine wp_cond_false t10 ?_
  refine wp_skip ?_
  clear t10
  refine wp_seq ?_
  refine wp_region_sq (σ := Value) 50 [(0, 12), (1, 13), (2, 11), (3, 14), (4, 15), (5, 5), (6, 6)] (fun j_ s X => match j_ with | 0 => Below X1.heap.size X1 X | 1 => Below X1.heap.size X1 X | 2 => Below X1.heap.size X1 X ∧ (SliceI X s (zl (pE f n) n) (fun j => (rkD (gN f) n j : Int))) | 3 => Below X1.heap.size X1 X ∧ (SliceI X s (zl (pE f n) n) (fun j => (rkD (gN f) n j : Int))) | 4 => Below X1.heap.size X1 X ∧ (SliceI X s (zl (pE f n) n) (fun j => (rkD (gN f) n j : Int))) | 5 => Below X1.heap.size X1 X ∧ (SliceI X s (zl (pE f n) n) (fun j => (rkD (gN f) n j : Int))) | 6 => Below X1.heap.size X1 X ∧ (SliceI X s (zl (pE f n) n) (fun j => (rkD (gN f) n j : Int))) | _ => Below X1.heap.size X1 X ∧ (SliceI X s (zl (pE f n) n) (fun j => (rkD (gN f) n j : Int)))) (fun s => fun i_ => match i_ with | 0 => pv | 1 => .tuple #[s, .int .i64 ((pE f n : Nat) : Int)] | 2 => .tuple #[s, .int .i64 ((pE f n : Nat) : Int)] | 3 => s | 4 => .int .i64 ((pE f n : Nat) : Int) | 5 => s | 6 => .int .i64 ((pE f n : Nat) : Int) | _ => undef) undef A.1 (by kernel_rfl) (by decide) (by decide) (Below.refl _ _) ?_ ?_
  · intro i_ hi_ s a X hf hv hn hS
    match i_, hi_ with
    | 0, _ => exact stepV rfl rfl (execMvB rfl ((hf 0 (by decide)).trans t0)) ⟨s, ⟨_, rfl, rfl⟩, hS, fun _ _ => rfl⟩
    | 1, _ =>
      refine stepC rfl rfl (execCall1 Try.func16 (by kernel_rfl) (by kernel_rfl) rfl (hv 0 (by omega) _ rfl _ rfl)) (I.rank f n _ X (FI.on hS) (by omega)) fun e w' hh => ?_
      obtain ⟨r_, he, hk, hb⟩ := hh
      refine ⟨_, he, r_, ⟨_, rfl, rfl⟩, ⟨(hS).trans ((hb).mono (hS).size), own_ints hk (rnk_fits (by omega))⟩, fun i hi => ?_⟩
      match i, hi with
      | 0, _ => rfl
      | n_ + 1, h_ => omega
    | 2, _ => exact stepV rfl rfl (execMvB rfl (hv 1 (by omega) _ rfl _ rfl)) ⟨s, ⟨_, rfl, rfl⟩, hS, fun _ _ => rfl⟩
    | 3, _ => exact stepV rfl rfl (execExtT rfl (hv 2 (by omega) _ rfl _ rfl) rfl) ⟨s, ⟨_, rfl, rfl⟩, hS, fun _ _ => rfl⟩
    | 4, _ => exact stepV rfl rfl (execExtT rfl (hv 2 (by omega) _ rfl _ rfl) rfl) ⟨s, ⟨_, rfl, rfl⟩, hS, fun _ _ => rfl⟩
    | 5, _ => exact stepV rfl rfl (execAsgB rfl (hv 3 (by omega) _ rfl _ rfl)) ⟨s, ⟨_, rfl, rfl⟩, hS, fun _ _ => rfl⟩
    | 6, _ => exact stepV rfl rfl (execAsgB rfl (hv 4 (by omega) _ rfl _ rfl)) ⟨s, ⟨_, rfl, rfl⟩, hS, fun _ _ => rfl⟩
    | k_ + 7, h_ => exact absurd h_ (by simp)
  rintro v13 a X3 h1 h2 h3 h4 hS
  replace hS : Below X1.heap.size X1 X3 ∧ (SliceI X3 v13 (zl (pE f n) n) (fun j => (rkD (gN f) n j : Int))) := hS
  obtain ⟨bX, Fv13⟩ := hS
  replace t0 := (h3 0 (by decide)).trans t0
  replace t1 := (h3 1 (by decide)).trans t1
  have t5 : a.eval (.tmp 5) = v13 := h4 5 _ rfl _ rfl
  have t6 : a.eval (.tmp 6) = .int .i64 ((pE f n : Nat) : Int) := h4 6 _ rfl _ rfl
  replace FI := (FI.on bX)
  replace FJ := (FJ.on bX)
  have ZX3 := bX.size
  replace BW := BW.trans (bX.mono BW.size)
  clear bX
  replace A := (⟨h1, h2.trans A.2⟩ : a.tmps.size = 50 ∧ a.defers = [])
  clear h1 h2 h3 h4
  refine wp_seq ?_
  refine wp_region_sq (σ := Value) 50 [(0, 17), (1, 18), (2, 16), (3, 19), (4, 20), (5, 7), (6, 8)] (fun j_ s X => match j_ with | 0 => Below X3.heap.size X3 X | 1 => Below X3.heap.size X3 X | 2 => Below X3.heap.size X3 X ∧ (SliceI X s (zl (pE g m) m) (fun j => (rkD (gN g) m j : Int))) | 3 => Below X3.heap.size X3 X ∧ (SliceI X s (zl (pE g m) m) (fun j => (rkD (gN g) m j : Int))) | 4 => Below X3.heap.size X3 X ∧ (SliceI X s (zl (pE g m) m) (fun j => (rkD (gN g) m j : Int))) | 5 => Below X3.heap.size X3 X ∧ (SliceI X s (zl (pE g m) m) (fun j => (rkD (gN g) m j : Int))) | 6 => Below X3.heap.size X3 X ∧ (SliceI X s (zl (pE g m) m) (fun j => (rkD (gN g) m j : Int))) | _ => Below X3.heap.size X3 X ∧ (SliceI X s (zl (pE g m) m) (fun j => (rkD (gN g) m j : Int)))) (fun s => fun i_ => match i_ with | 0 => qv | 1 => .tuple #[s, .int .i64 ((pE g m : Nat) : Int)] | 2 => .tuple #[s, .int .i64 ((pE g m : Nat) : Int)] | 3 => s | 4 => .int .i64 ((pE g m : Nat) : Int) | 5 => s | 6 => .int .i64 ((pE g m : Nat) : Int) | _ => undef) undef A.1 (by kernel_rfl) (by decide) (by decide) (Below.refl _ _) ?_ ?_
  · intro i_ hi_ s a X hf hv hn hS
    match i_, hi_ with
    | 0, _ => exact stepV rfl rfl (execMvB rfl ((hf 1 (by decide)).trans t1)) ⟨s, ⟨_, rfl, rfl⟩, hS, fun _ _ => rfl⟩
    | 1, _ =>
      refine stepC rfl rfl (execCall1 Try.func16 (by kernel_rfl) (by kernel_rfl) rfl (hv 0 (by omega) _ rfl _ rfl)) (I.rank g m _ X (FJ.on hS) (by omega)) fun e w' hh => ?_
      obtain ⟨r_, he, hk, hb⟩ := hh
      refine ⟨_, he, r_, ⟨_, rfl, rfl⟩, ⟨(hS).trans ((hb).mono (hS).size), own_ints hk (rnk_fits (by omega))⟩, fun i hi => ?_⟩
      match i, hi with
      | 0, _ => rfl
      | n_ + 1, h_ => omega
    | 2, _ => exact stepV rfl rfl (execMvB rfl (hv 1 (by omega) _ rfl _ rfl)) ⟨s, ⟨_, rfl, rfl⟩, hS, fun _ _ => rfl⟩
    | 3, _ => exact stepV rfl rfl (execExtT rfl (hv 2 (by omega) _ rfl _ rfl) rfl) ⟨s, ⟨_, rfl, rfl⟩, hS, fun _ _ => rfl⟩
    | 4, _ => exact stepV rfl rfl (execExtT rfl (hv 2 (by omega) _ rfl _ rfl) rfl) ⟨s, ⟨_, rfl, rfl⟩, hS, fun _ _ => rfl⟩
    | 5, _ => exact stepV rfl rfl (execAsgB rfl (hv 3 (by omega) _ rfl _ rfl)) ⟨s, ⟨_, rfl, rfl⟩, hS, fun _ _ => rfl⟩
    | 6, _ => exact stepV rfl rfl (execAsgB rfl (hv 4 (by omega) _ rfl _ rfl)) ⟨s, ⟨_, rfl, rfl⟩, hS, fun _ _ => rfl⟩
    | k_ + 7, h_ => exact absurd h_ (by simp)
  rintro v18 a X4 h1 h2 h3 h4 hS
  replace hS : Below X3.heap.size X3 X4 ∧ (SliceI X4 v18 (zl (pE g m) m) (fun j => (rkD (gN g) m j : Int))) := hS
  obtain ⟨bX, Fv18⟩ := hS
  replace t0 := (h3 0 (by decide)).trans t0
  replace t1 := (h3 1 (by decide)).trans t1
  replace t5 := (h3 5 (by decide)).trans t5
  replace t6 := (h3 6 (by decide)).trans t6
  have t7 : a.eval (.tmp 7) = v18 := h4 5 _ rfl _ rfl
  have t8 : a.eval (.tmp 8) = .int .i64 ((pE g m : Nat) : Int) := h4 6 _ rfl _ rfl
  replace FI := (FI.on bX)
  replace FJ := (FJ.on bX)
  replace Fv13 := (Fv13.on bX)
  have ZX4 := bX.size
  replace BW := BW.trans (bX.mono BW.size)
  clear bX
  replace A := (⟨h1, h2.trans A.2⟩ : a.tmps.size = 50 ∧ a.defers = [])
  clear h1 h2 h3 h4
  refine wp_seq ?_
  refine wp_seq ?_
  by_cases h1 : pE f n = 0
  · by_cases h2 : pE g m = 0
    · by_cases h3 : n = m
      · refine wp_region_sq (σ := Unit) 50 [(0, 21), (1, 22), (2, 23), (3, 24), (4, 25), (5, 26), (6, 27), (7, 28), (8, 29), (9, 30), (10, 31), (11, 32), (12, 33)] (fun j_ s X => match j_ with | 0 => Below X4.heap.size X4 X | 1 => Below X4.heap.size X4 X | 2 => Below X4.heap.size X4 X | 3 => Below X4.heap.size X4 X | 4 => Below X4.heap.size X4 X | 5 => Below X4.heap.size X4 X | 6 => Below X4.heap.size X4 X | 7 => Below X4.heap.size X4 X | 8 => Below X4.heap.size X4 X | 9 => Below X4.heap.size X4 X | 10 => Below X4.heap.size X4 X | 11 => Below X4.heap.size X4 X | 12 => Below X4.heap.size X4 X | _ => Below X4.heap.size X4 X) (fun s => fun i_ => match i_ with | 0 => .int .i64 ((pE f n : Nat) : Int) | 1 => .bool false | 2 => .bool false | 3 => .int .i64 ((pE g m : Nat) : Int) | 4 => .bool false | 5 => .bool false | 6 => .bool false | 7 => pv | 8 => .int .i64 ((n : Nat) : Int) | 9 => qv | 10 => .int .i64 ((m : Nat) : Int) | 11 => .bool false | 12 => .bool false | _ => undef) () A.1 (by kernel_rfl) (by decide) (by decide) (Below.refl _ _) ?_ ?_
        · intro i_ hi_ s a X hf hv hn hS
          match i_, hi_ with
          | 0, _ => exact stepV rfl rfl (execMvB rfl ((hf 6 (by decide)).trans t6)) ⟨s, ⟨_, rfl, rfl⟩, hS, fun _ _ => rfl⟩
          | 1, _ => exact stepV rfl rfl (execDec (execNeE (p := pE f n) (q := 0) rfl (hv 0 (by omega) _ rfl _ rfl) rfl) (decide_eq_false (by omega))) ⟨s, ⟨_, rfl, rfl⟩, hS, fun _ _ => rfl⟩
          | 2, _ => exact stepV rfl rfl (execMvB rfl (hv 1 (by omega) _ rfl _ rfl)) ⟨s, ⟨_, rfl, rfl⟩, hS, fun _ _ => rfl⟩
          | 3, _ => exact stepV rfl (wantedOf rfl (yieldedAt rfl rfl (show a.eval (.tmp 23) = .bool false from (hv 2 (by omega) _ rfl _ rfl)))) (execMvB rfl ((hf 8 (by decide)).trans t8)) ⟨s, ⟨_, rfl, rfl⟩, hS, fun _ _ => rfl⟩
          | 4, _ => exact stepV rfl (wantedOf rfl (yieldedAt rfl rfl (show a.eval (.tmp 23) = .bool false from (hv 2 (by omega) _ rfl _ rfl)))) (execDec (execNeE (p := pE g m) (q := 0) rfl (hv 3 (by omega) _ rfl _ rfl) rfl) (decide_eq_false (by omega))) ⟨s, ⟨_, rfl, rfl⟩, hS, fun _ _ => rfl⟩
          | 5, _ => exact stepV rfl rfl (execPickF rfl (hv 2 (by omega) _ rfl _ rfl) (hv 4 (by omega) _ rfl _ rfl)) ⟨s, ⟨_, rfl, rfl⟩, hS, fun _ _ => rfl⟩
          | 6, _ => exact stepV rfl rfl (execMvB rfl (hv 5 (by omega) _ rfl _ rfl)) ⟨s, ⟨_, rfl, rfl⟩, hS, fun _ _ => rfl⟩
          | 7, _ => exact stepV rfl (wantedOf rfl (yieldedAt rfl rfl (show a.eval (.tmp 27) = .bool false from (hv 6 (by omega) _ rfl _ rfl)))) (execMvB rfl ((hf 0 (by decide)).trans t0)) ⟨s, ⟨_, rfl, rfl⟩, hS, fun _ _ => rfl⟩
          | 8, _ => exact stepV rfl (wantedOf rfl (yieldedAt rfl rfl (show a.eval (.tmp 27) = .bool false from (hv 6 (by omega) _ rfl _ rfl)))) (execLenI (len := n) rfl (hv 7 (by omega) _ rfl _ rfl) ((FI.on hS)).shp) ⟨s, ⟨_, rfl, rfl⟩, hS, fun _ _ => rfl⟩
          | 9, _ => exact stepV rfl (wantedOf rfl (yieldedAt rfl rfl (show a.eval (.tmp 27) = .bool false from (hv 6 (by omega) _ rfl _ rfl)))) (execMvB rfl ((hf 1 (by decide)).trans t1)) ⟨s, ⟨_, rfl, rfl⟩, hS, fun _ _ => rfl⟩
          | 10, _ => exact stepV rfl (wantedOf rfl (yieldedAt rfl rfl (show a.eval (.tmp 27) = .bool false from (hv 6 (by omega) _ rfl _ rfl)))) (execLenI (len := m) rfl (hv 9 (by omega) _ rfl _ rfl) ((FJ.on hS)).shp) ⟨s, ⟨_, rfl, rfl⟩, hS, fun _ _ => rfl⟩
          | 11, _ => exact stepV rfl (wantedOf rfl (yieldedAt rfl rfl (show a.eval (.tmp 27) = .bool false from (hv 6 (by omega) _ rfl _ rfl)))) (execDec (execNeN (p := n) (q := m) rfl (hv 8 (by omega) _ rfl _ rfl) (hv 10 (by omega) _ rfl _ rfl)) (decide_eq_false (by omega))) ⟨s, ⟨_, rfl, rfl⟩, hS, fun _ _ => rfl⟩
          | 12, _ => exact stepV rfl rfl (execPickF rfl (hv 6 (by omega) _ rfl _ rfl) (hv 11 (by omega) _ rfl _ rfl)) ⟨s, ⟨_, rfl, rfl⟩, hS, fun _ _ => rfl⟩
          | k_ + 13, h_ => exact absurd h_ (by simp)
        rintro _ a X5 h1 h2 h3 h4 hS
        replace hS : Below X4.heap.size X4 X5 := hS
        have bX := hS
        clear hS
        replace t0 := (h3 0 (by decide)).trans t0
        replace t1 := (h3 1 (by decide)).trans t1
        replace t5 := (h3 5 (by decide)).trans t5
        replace t6 := (h3 6 (by decide)).trans t6
        replace t7 := (h3 7 (by decide)).trans t7
        replace t8 := (h3 8 (by decide)).trans t8
        have t33 : a.eval (.tmp 33) = .bool false := h4 12 _ rfl _ rfl
        replace FI := (FI.on bX)
        replace FJ := (FJ.on bX)
        replace Fv13 := (Fv13.on bX)
        replace Fv18 := (Fv18.on bX)
        have ZX5 := bX.size
        replace BW := BW.trans (bX.mono BW.size)
        clear bX
        replace A := (⟨h1, h2.trans A.2⟩ : a.tmps.size = 50 ∧ a.defers = [])
        clear h1 h2 h3 h4
        refine wp_cond_false t33 ?_
        refine wp_skip ?_
        clear t33
        subst h3
        rw [h1, zl_ok] at Fv13
        rw [h2, zl_ok] at Fv18
        have hr1 := rises_int h1 h2
        have hr2 := rises_int h2 h1
        refine wp_seq ?_
        refine wp_region_sq (σ := Unit) 50 [(0, 34), (1, 35), (2, 36), (3, 37), (4, 38), (5, 39), (6, 40), (7, 41), (8, 42), (9, 43), (10, 44), (11, 45), (12, 46), (13, 47), (14, 48), (15, 49), (16, 4)] (fun j_ s X => match j_ with | 0 => Below X5.heap.size X5 X | 1 => Below X5.heap.size X5 X | 2 => Below X5.heap.size X5 X | 3 => Below X5.heap.size X5 X | 4 => Below X5.heap.size X5 X | 5 => Below X5.heap.size X5 X | 6 => Below X5.heap.size X5 X | 7 => Below X5.heap.size X5 X | 8 => Below X5.heap.size X5 X | 9 => Below X5.heap.size X5 X | 10 => Below X5.heap.size X5 X | 11 => Below X5.heap.size X5 X | 12 => Below X5.heap.size X5 X | 13 => Below X5.heap.size X5 X | 14 => Below X5.heap.size X5 X | 15 => Below X5.heap.size X5 X | 16 => Below X5.heap.size X5 X | _ => Below X5.heap.size X5 X) (fun s => fun i_ => match i_ with | 0 => pv | 1 => qv | 2 => .bool (lsF (f) (g) 0 n) | 3 => v13 | 4 => v18 | 5 => .bool (lsF (fun j => (rkD (gN f) n j : Int)) (fun j => (rkD (gN g) n j : Int)) 0 n) | 6 => .bool true | 7 => .bool true | 8 => qv | 9 => pv | 10 => .bool (lsF (g) (f) 0 n) | 11 => v18 | 12 => v13 | 13 => .bool (lsF (fun j => (rkD (gN g) n j : Int)) (fun j => (rkD (gN f) n j : Int)) 0 n) | 14 => .bool true | 15 => .bool true | 16 => .bool true | _ => undef) () A.1 (by kernel_rfl) (by decide) (by decide) (Below.refl _ _) ?_ ?_
        · intro i_ hi_ s a X hf hv hn hS
          match i_, hi_ with
          | 0, _ => exact stepV rfl rfl (execMvB rfl ((hf 0 (by decide)).trans t0)) ⟨s, ⟨_, rfl, rfl⟩, hS, fun _ _ => rfl⟩
          | 1, _ => exact stepV rfl rfl (execMvB rfl ((hf 1 (by decide)).trans t1)) ⟨s, ⟨_, rfl, rfl⟩, hS, fun _ _ => rfl⟩
          | 2, _ => exact stepC rfl rfl (execCall2 Try.func32 (by kernel_rfl) (by kernel_rfl) rfl (hv 0 (by omega) _ rfl _ rfl) (hv 1 (by omega) _ rfl _ rfl)) (less_any _ _ n _ _ X (FI.on hS) (FJ.on hS) hn17) fun e w' hh => ⟨_, hh.1, s, ⟨_, rfl, rfl⟩, (hS).trans ((hh.2).mono (hS).size), fun _ _ => rfl⟩
          | 3, _ => exact stepV rfl rfl (execMvB rfl ((hf 5 (by decide)).trans t5)) ⟨s, ⟨_, rfl, rfl⟩, hS, fun _ _ => rfl⟩
          | 4, _ => exact stepV rfl rfl (execMvB rfl ((hf 7 (by decide)).trans t7)) ⟨s, ⟨_, rfl, rfl⟩, hS, fun _ _ => rfl⟩
          | 5, _ => exact stepC rfl rfl (execCall2 Try.func32 (by kernel_rfl) (by kernel_rfl) rfl (hv 3 (by omega) _ rfl _ rfl) (hv 4 (by omega) _ rfl _ rfl)) (less_any _ _ n _ _ X (Fv13.on hS) (Fv18.on hS) hn17) fun e w' hh => ⟨_, hh.1, s, ⟨_, rfl, rfl⟩, (hS).trans ((hh.2).mono (hS).size), fun _ _ => rfl⟩
          | 6, _ => exact stepV rfl rfl (execEqBl rfl (hv 2 (by omega) _ rfl _ rfl) (hv 5 (by omega) _ rfl _ rfl) hr1) ⟨s, ⟨_, rfl, rfl⟩, hS, fun _ _ => rfl⟩
          | 7, _ => exact stepV rfl rfl (execMvB rfl (hv 6 (by omega) _ rfl _ rfl)) ⟨s, ⟨_, rfl, rfl⟩, hS, fun _ _ => rfl⟩
          | 8, _ => exact stepV rfl (wantedOf rfl (yieldedAt rfl rfl (show a.eval (.tmp 41) = .bool true from (hv 7 (by omega) _ rfl _ rfl)))) (execMvB rfl ((hf 1 (by decide)).trans t1)) ⟨s, ⟨_, rfl, rfl⟩, hS, fun _ _ => rfl⟩
          | 9, _ => exact stepV rfl (wantedOf rfl (yieldedAt rfl rfl (show a.eval (.tmp 41) = .bool true from (hv 7 (by omega) _ rfl _ rfl)))) (execMvB rfl ((hf 0 (by decide)).trans t0)) ⟨s, ⟨_, rfl, rfl⟩, hS, fun _ _ => rfl⟩
          | 10, _ => exact stepC rfl (wantedOf rfl (yieldedAt rfl rfl (show a.eval (.tmp 41) = .bool true from (hv 7 (by omega) _ rfl _ rfl)))) (execCall2 Try.func32 (by kernel_rfl) (by kernel_rfl) rfl (hv 8 (by omega) _ rfl _ rfl) (hv 9 (by omega) _ rfl _ rfl)) (less_any _ _ n _ _ X (FJ.on hS) (FI.on hS) hn17) fun e w' hh => ⟨_, hh.1, s, ⟨_, rfl, rfl⟩, (hS).trans ((hh.2).mono (hS).size), fun _ _ => rfl⟩
          | 11, _ => exact stepV rfl (wantedOf rfl (yieldedAt rfl rfl (show a.eval (.tmp 41) = .bool true from (hv 7 (by omega) _ rfl _ rfl)))) (execMvB rfl ((hf 7 (by decide)).trans t7)) ⟨s, ⟨_, rfl, rfl⟩, hS, fun _ _ => rfl⟩
          | 12, _ => exact stepV rfl (wantedOf rfl (yieldedAt rfl rfl (show a.eval (.tmp 41) = .bool true from (hv 7 (by omega) _ rfl _ rfl)))) (execMvB rfl ((hf 5 (by decide)).trans t5)) ⟨s, ⟨_, rfl, rfl⟩, hS, fun _ _ => rfl⟩
          | 13, _ => exact stepC rfl (wantedOf rfl (yieldedAt rfl rfl (show a.eval (.tmp 41) = .bool true from (hv 7 (by omega) _ rfl _ rfl)))) (execCall2 Try.func32 (by kernel_rfl) (by kernel_rfl) rfl (hv 11 (by omega) _ rfl _ rfl) (hv 12 (by omega) _ rfl _ rfl)) (less_any _ _ n _ _ X (Fv18.on hS) (Fv13.on hS) hn17) fun e w' hh => ⟨_, hh.1, s, ⟨_, rfl, rfl⟩, (hS).trans ((hh.2).mono (hS).size), fun _ _ => rfl⟩
          | 14, _ => exact stepV rfl (wantedOf rfl (yieldedAt rfl rfl (show a.eval (.tmp 41) = .bool true from (hv 7 (by omega) _ rfl _ rfl)))) (execEqBl rfl (hv 10 (by omega) _ rfl _ rfl) (hv 13 (by omega) _ rfl _ rfl) hr2) ⟨s, ⟨_, rfl, rfl⟩, hS, fun _ _ => rfl⟩
          | 15, _ => exact stepV rfl rfl (execPickT rfl (hv 7 (by omega) _ rfl _ rfl) (hv 14 (by omega) _ rfl _ rfl)) ⟨s, ⟨_, rfl, rfl⟩, hS, fun _ _ => rfl⟩
          | 16, _ => exact stepV rfl rfl (execAsgB rfl (hv 15 (by omega) _ rfl _ rfl)) ⟨s, ⟨_, rfl, rfl⟩, hS, fun _ _ => rfl⟩
          | k_ + 17, h_ => exact absurd h_ (by simp)
        rintro _ a X7 h1 h2 h3 h4 hS
        replace hS : Below X5.heap.size X5 X7 := hS
        have bX := hS
        clear hS
        have t4 : a.eval (.tmp 4) = .bool true := h4 16 _ rfl _ rfl
        replace FI := (FI.on bX)
        replace FJ := (FJ.on bX)
        replace Fv13 := (Fv13.on bX)
        replace Fv18 := (Fv18.on bX)
        have ZX7 := bX.size
        replace BW := BW.trans (bX.mono BW.size)
        clear bX
        replace A := (⟨h1, h2.trans A.2⟩ : a.tmps.size = 50 ∧ a.defers = [])
        clear h1 h2 h3 h4
        clear t0 t1 t5 t6 t7 t8
        refine wp_ret ?_
        refine bodyPost_ret (results_tmp rfl _ _ _) A.2 ⟨?_, BW⟩
        show Ending.returned (a.eval (.tmp 4)) = _
        rw [t4]
      · refine wp_region_sq (σ := Unit) 50 [(0, 21), (1, 22), (2, 23), (3, 24), (4, 25), (5, 26), (6, 27), (7, 28), (8, 29), (9, 30), (10, 31), (11, 32), (12, 33)] (fun j_ s X => match j_ with | 0 => Below X4.heap.size X4 X | 1 => Below X4.heap.size X4 X | 2 => Below X4.heap.size X4 X | 3 => Below X4.heap.size X4 X | 4 => Below X4.heap.size X4 X | 5 => Below X4.heap.size X4 X | 6 => Below X4.heap.size X4 X | 7 => Below X4.heap.size X4 X | 8 => Below X4.heap.size X4 X | 9 => Below X4.heap.size X4 X | 10 => Below X4.heap.size X4 X | 11 => Below X4.heap.size X4 X | 12 => Below X4.heap.size X4 X | _ => Below X4.heap.size X4 X) (fun s => fun i_ => match i_ with | 0 => .int .i64 ((pE f n : Nat) : Int) | 1 => .bool false | 2 => .bool false | 3 => .int .i64 ((pE g m : Nat) : Int) | 4 => .bool false | 5 => .bool false | 6 => .bool false | 7 => pv | 8 => .int .i64 ((n : Nat) : Int) | 9 => qv | 10 => .int .i64 ((m : Nat) : Int) | 11 => .bool true | 12 => .bool true | _ => undef) () A.1 (by kernel_rfl) (by decide) (by decide) (Below.refl _ _) ?_ ?_
        · intro i_ hi_ s a X hf hv hn hS
          match i_, hi_ with
          | 0, _ => exact stepV rfl rfl (execMvB rfl ((hf 6 (by decide)).trans t6)) ⟨s, ⟨_, rfl, rfl⟩, hS, fun _ _ => rfl⟩
          | 1, _ => exact stepV rfl rfl (execDec (execNeE (p := pE f n) (q := 0) rfl (hv 0 (by omega) _ rfl _ rfl) rfl) (decide_eq_false (by omega))) ⟨s, ⟨_, rfl, rfl⟩, hS, fun _ _ => rfl⟩
          | 2, _ => exact stepV rfl rfl (execMvB rfl (hv 1 (by omega) _ rfl _ rfl)) ⟨s, ⟨_, rfl, rfl⟩, hS, fun _ _ => rfl⟩
          | 3, _ => exact stepV rfl (wantedOf rfl (yieldedAt rfl rfl (show a.eval (.tmp 23) = .bool false from (hv 2 (by omega) _ rfl _ rfl)))) (execMvB rfl ((hf 8 (by decide)).trans t8)) ⟨s, ⟨_, rfl, rfl⟩, hS, fun _ _ => rfl⟩
          | 4, _ => exact stepV rfl (wantedOf rfl (yieldedAt rfl rfl (show a.eval (.tmp 23) = .bool false from (hv 2 (by omega) _ rfl _ rfl)))) (execDec (execNeE (p := pE g m) (q := 0) rfl (hv 3 (by omega) _ rfl _ rfl) rfl) (decide_eq_false (by omega))) ⟨s, ⟨_, rfl, rfl⟩, hS, fun _ _ => rfl⟩
          | 5, _ => exact stepV rfl rfl (execPickF rfl (hv 2 (by omega) _ rfl _ rfl) (hv 4 (by omega) _ rfl _ rfl)) ⟨s, ⟨_, rfl, rfl⟩, hS, fun _ _ => rfl⟩
          | 6, _ => exact stepV rfl rfl (execMvB rfl (hv 5 (by omega) _ rfl _ rfl)) ⟨s, ⟨_, rfl, rfl⟩, hS, fun _ _ => rfl⟩
          | 7, _ => exact stepV rfl (wantedOf rfl (yieldedAt rfl rfl (show a.eval (.tmp 27) = .bool false from (hv 6 (by omega) _ rfl _ rfl)))) (execMvB rfl ((hf 0 (by decide)).trans t0)) ⟨s, ⟨_, rfl, rfl⟩, hS, fun _ _ => rfl⟩
          | 8, _ => exact stepV rfl (wantedOf rfl (yieldedAt rfl rfl (show a.eval (.tmp 27) = .bool false from (hv 6 (by omega) _ rfl _ rfl)))) (execLenI (len := n) rfl (hv 7 (by omega) _ rfl _ rfl) ((FI.on hS)).shp) ⟨s, ⟨_, rfl, rfl⟩, hS, fun _ _ => rfl⟩
          | 9, _ => exact stepV rfl (wantedOf rfl (yieldedAt rfl rfl (show a.eval (.tmp 27) = .bool false from (hv 6 (by omega) _ rfl _ rfl)))) (execMvB rfl ((hf 1 (by decide)).trans t1)) ⟨s, ⟨_, rfl, rfl⟩, hS, fun _ _ => rfl⟩
          | 10, _ => exact stepV rfl (wantedOf rfl (yieldedAt rfl rfl (show a.eval (.tmp 27) = .bool false from (hv 6 (by omega) _ rfl _ rfl)))) (execLenI (len := m) rfl (hv 9 (by omega) _ rfl _ rfl) ((FJ.on hS)).shp) ⟨s, ⟨_, rfl, rfl⟩, hS, fun _ _ => rfl⟩
          | 11, _ => exact stepV rfl (wantedOf rfl (yieldedAt rfl rfl (show a.eval (.tmp 27) = .bool false from (hv 6 (by omega) _ rfl _ rfl)))) (execDec (execNeN (p := n) (q := m) rfl (hv 8 (by omega) _ rfl _ rfl) (hv 10 (by omega) _ rfl _ rfl)) (decide_eq_true (by exact h3))) ⟨s, ⟨_, rfl, rfl⟩, hS, fun _ _ => rfl⟩
          | 12, _ => exact stepV rfl rfl (execPickF rfl (hv 6 (by omega) _ rfl _ rfl) (hv 11 (by omega) _ rfl _ rfl)) ⟨s, ⟨_, rfl, rfl⟩, hS, fun _ _ => rfl⟩
          | k_ + 13, h_ => exact absurd h_ (by simp)
        rintro _ a X5 h1 h2 h3 h4 hS
        replace hS : Below X4.heap.size X4 X5 := hS
        have bX := hS
        clear hS
        replace t0 := (h3 0 (by decide)).trans t0
        replace t1 := (h3 1 (by decide)).trans t1
        replace t5 := (h3 5 (by decide)).trans t5
        replace t6 := (h3 6 (by decide)).trans t6
        replace t7 := (h3 7 (by decide)).trans t7
        replace t8 := (h3 8 (by decide)).trans t8
        have t33 : a.eval (.tmp 33) = .bool true := h4 12 _ rfl _ rfl
        replace FI := (FI.on bX)
        replace FJ := (FJ.on bX)
        replace Fv13 := (Fv13.on bX)
        replace Fv18 := (Fv18.on bX)
        have ZX5 := bX.size
        replace BW := BW.trans (bX.mono BW.size)
        clear bX
        replace A := (⟨h1, h2.trans A.2⟩ : a.tmps.size = 50 ∧ a.defers = [])
        clear h1 h2 h3 h4
        refine wp_cond_true t33 ?_
        refine wp_seq ?_
        refine wp_region_sq (σ := Unit) 50 [(0, 4)] (fun j_ s X => match j_ with | 0 => Below X5.heap.size X5 X | _ => Below X5.heap.size X5 X) (fun s => fun i_ => match i_ with | 0 => .bool true | _ => undef) () A.1 (by kernel_rfl) (by decide) (by decide) (Below.refl _ _) ?_ ?_
        · intro i_ hi_ s a X hf hv hn hS
          match i_, hi_ with
          | 0, _ => exact stepV rfl rfl (execAsgB rfl rfl) ⟨s, ⟨_, rfl, rfl⟩, hS, fun _ _ => rfl⟩
          | k_ + 1, h_ => exact absurd h_ (by simp)
        rintro _ a X6 h1 h2 h3 h4 hS
        replace hS : Below X5.heap.size X5 X6 := hS
        have bX := hS
        clear hS
        have t4 : a.eval (.tmp 4) = .bool true := h4 0 _ rfl _ rfl
        replace FI := (FI.on bX)
        replace FJ := (FJ.on bX)
        replace Fv13 := (Fv13.on bX)
        replace Fv18 := (Fv18.on bX)
        have ZX6 := bX.size
        replace BW := BW.trans (bX.mono BW.size)
        clear bX
        replace A := (⟨h1, h2.trans A.2⟩ : a.tmps.size = 50 ∧ a.defers = [])
        clear h1 h2 h3 h4
        clear t0 t1 t5 t6 t7 t8
        refine wp_ret ?_
        repeat (first | refine ret_in ?_ | refine ret_then ?_)
        refine bodyPost_ret (results_tmp rfl _ _ _) A.2 ⟨?_, BW⟩
        show Ending.returned (a.eval (.tmp 4)) = _
        rw [t4]
    · refine wp_region_sq (σ := Unit) 50 [(0, 21), (1, 22), (2, 23), (3, 24), (4, 25), (5, 26), (6, 27), (7, 28), (8, 29), (9, 30), (10, 31), (11, 32), (12, 33)] (fun j_ s X => match j_ with | 0 => Below X4.heap.size X4 X | 1 => Below X4.heap.size X4 X | 2 => Below X4.heap.size X4 X | 3 => Below X4.heap.size X4 X | 4 => Below X4.heap.size X4 X | 5 => Below X4.heap.size X4 X | 6 => Below X4.heap.size X4 X | 7 => Below X4.heap.size X4 X | 8 => Below X4.heap.size X4 X | 9 => Below X4.heap.size X4 X | 10 => Below X4.heap.size X4 X | 11 => Below X4.heap.size X4 X | 12 => Below X4.heap.size X4 X | _ => Below X4.heap.size X4 X) (fun s => fun i_ => match i_ with | 0 => .int .i64 ((pE f n : Nat) : Int) | 1 => .bool false | 2 => .bool false | 3 => .int .i64 ((pE g m : Nat) : Int) | 4 => .bool true | 5 => .bool true | 6 => .bool true | 7 => undef | 8 => undef | 9 => undef | 10 => undef | 11 => undef | 12 => .bool true | _ => undef) () A.1 (by kernel_rfl) (by decide) (by decide) (Below.refl _ _) ?_ ?_
      · intro i_ hi_ s a X hf hv hn hS
        match i_, hi_ with
        | 0, _ => exact stepV rfl rfl (execMvB rfl ((hf 6 (by decide)).trans t6)) ⟨s, ⟨_, rfl, rfl⟩, hS, fun _ _ => rfl⟩
        | 1, _ => exact stepV rfl rfl (execDec (execNeE (p := pE f n) (q := 0) rfl (hv 0 (by omega) _ rfl _ rfl) rfl) (decide_eq_false (by omega))) ⟨s, ⟨_, rfl, rfl⟩, hS, fun _ _ => rfl⟩
        | 2, _ => exact stepV rfl rfl (execMvB rfl (hv 1 (by omega) _ rfl _ rfl)) ⟨s, ⟨_, rfl, rfl⟩, hS, fun _ _ => rfl⟩
        | 3, _ => exact stepV rfl (wantedOf rfl (yieldedAt rfl rfl (show a.eval (.tmp 23) = .bool false from (hv 2 (by omega) _ rfl _ rfl)))) (execMvB rfl ((hf 8 (by decide)).trans t8)) ⟨s, ⟨_, rfl, rfl⟩, hS, fun _ _ => rfl⟩
        | 4, _ => exact stepV rfl (wantedOf rfl (yieldedAt rfl rfl (show a.eval (.tmp 23) = .bool false from (hv 2 (by omega) _ rfl _ rfl)))) (execDec (execNeE (p := pE g m) (q := 0) rfl (hv 3 (by omega) _ rfl _ rfl) rfl) (decide_eq_true (by exact h2))) ⟨s, ⟨_, rfl, rfl⟩, hS, fun _ _ => rfl⟩
        | 5, _ => exact stepV rfl rfl (execPickF rfl (hv 2 (by omega) _ rfl _ rfl) (hv 4 (by omega) _ rfl _ rfl)) ⟨s, ⟨_, rfl, rfl⟩, hS, fun _ _ => rfl⟩
        | 6, _ => exact stepV rfl rfl (execMvB rfl (hv 5 (by omega) _ rfl _ rfl)) ⟨s, ⟨_, rfl, rfl⟩, hS, fun _ _ => rfl⟩
        | 7, _ => exact stepU rfl (unwantedOf rfl (yieldedAt rfl rfl (show a.eval (.tmp 27) = .bool (!false) from (hv 6 (by omega) _ rfl _ rfl)))) ⟨s, ⟨_, rfl, rfl⟩, hS, fun _ _ => rfl⟩
        | 8, _ => exact stepU rfl (unwantedOf rfl (yieldedAt rfl rfl (show a.eval (.tmp 27) = .bool (!false) from (hv 6 (by omega) _ rfl _ rfl)))) ⟨s, ⟨_, rfl, rfl⟩, hS, fun _ _ => rfl⟩
        | 9, _ => exact stepU rfl (unwantedOf rfl (yieldedAt rfl rfl (show a.eval (.tmp 27) = .bool (!false) from (hv 6 (by omega) _ rfl _ rfl)))) ⟨s, ⟨_, rfl, rfl⟩, hS, fun _ _ => rfl⟩
        | 10, _ => exact stepU rfl (unwantedOf rfl (yieldedAt rfl rfl (show a.eval (.tmp 27) = .bool (!false) from (hv 6 (by omega) _ rfl _ rfl)))) ⟨s, ⟨_, rfl, rfl⟩, hS, fun _ _ => rfl⟩
        | 11, _ => exact stepU rfl (unwantedOf rfl (yieldedAt rfl rfl (show a.eval (.tmp 27) = .bool (!false) from (hv 6 (by omega) _ rfl _ rfl)))) ⟨s, ⟨_, rfl, rfl⟩, hS, fun _ _ => rfl⟩
        | 12, _ => exact stepV rfl rfl (execPickT rfl (hv 6 (by omega) _ rfl _ rfl) rfl) ⟨s, ⟨_, rfl, rfl⟩, hS, fun _ _ => rfl⟩
        | k_ + 13, h_ => exact absurd h_ (by simp)
      rintro _ a X5 h1 h2 h3 h4 hS
      replace hS : Below X4.heap.size X4 X5 := hS
      have bX := hS
      clear hS
      replace t0 := (h3 0 (by decide)).trans t0
      replace t1 := (h3 1 (by decide)).trans t1
      replace t5 := (h3 5 (by decide)).trans t5
      replace t6 := (h3 6 (by decide)).trans t6
      replace t7 := (h3 7 (by decide)).trans t7
      replace t8 := (h3 8 (by decide)).trans t8
      have t33 : a.eval (.tmp 33) = .bool true := h4 12 _ rfl _ rfl
      replace FI := (FI.on bX)
      replace FJ := (FJ.on bX)
      replace Fv13 := (Fv13.on bX)
      replace Fv18 := (Fv18.on bX)
      have ZX5 := bX.size
      replace BW := BW.trans (bX.mono BW.size)
      clear bX
      replace A := (⟨h1, h2.trans A.2⟩ : a.tmps.size = 50 ∧ a.defers = [])
      clear h1 h2 h3 h4
      refine wp_cond_true t33 ?_
      refine wp_seq ?_
      refine wp_region_sq (σ := Unit) 50 [(0, 4)] (fun j_ s X => match j_ with | 0 => Below X5.heap.size X5 X | _ => Below X5.heap.size X5 X) (fun s => fun i_ => match i_ with | 0 => .bool true | _ => undef) () A.1 (by kernel_rfl) (by decide) (by decide) (Below.refl _ _) ?_ ?_
      · intro i_ hi_ s a X hf hv hn hS
        match i_, hi_ with
        | 0, _ => exact stepV rfl rfl (execAsgB rfl rfl) ⟨s, ⟨_, rfl, rfl⟩, hS, fun _ _ => rfl⟩
        | k_ + 1, h_ => exact absurd h_ (by simp)
      rintro _ a X6 h1 h2 h3 h4 hS
      replace hS : Below X5.heap.size X5 X6 := hS
      have bX := hS
      clear hS
      have t4 : a.eval (.tmp 4) = .bool true := h4 0 _ rfl _ rfl
      replace FI := (FI.on bX)
      replace FJ := (FJ.on bX)
      replace Fv13 := (Fv13.on bX)
      replace Fv18 := (Fv18.on bX)
      have ZX6 := bX.size
      replace BW := BW.trans (bX.mono BW.size)
      clear bX
      replace A := (⟨h1, h2.trans A.2⟩ : a.tmps.size = 50 ∧ a.defers = [])
      clear h1 h2 h3 h4
      clear t0 t1 t5 t6 t7 t8
      refine wp_ret ?_
      repeat (first | refine ret_in ?_ | refine ret_then ?_)
      refine bodyPost_ret (results_tmp rfl _ _ _) A.2 ⟨?_, BW⟩
      show Ending.returned (a.eval (.tmp 4)) = _
      rw [t4]
  · refine wp_region_sq (σ := Unit) 50 [(0, 21), (1, 22), (2, 23), (3, 24), (4, 25), (5, 26), (6, 27), (7, 28), (8, 29), (9, 30), (10, 31), (11, 32), (12, 33)] (fun j_ s X => match j_ with | 0 => Below X4.heap.size X4 X | 1 => Below X4.heap.size X4 X | 2 => Below X4.heap.size X4 X | 3 => Below X4.heap.size X4 X | 4 => Below X4.heap.size X4 X | 5 => Below X4.heap.size X4 X | 6 => Below X4.heap.size X4 X | 7 => Below X4.heap.size X4 X | 8 => Below X4.heap.size X4 X | 9 => Below X4.heap.size X4 X | 10 => Below X4.heap.size X4 X | 11 => Below X4.heap.size X4 X | 12 => Below X4.heap.size X4 X | _ => Below X4.heap.size X4 X) (fun s => fun i_ => match i_ with | 0 => .int .i64 ((pE f n : Nat) : Int) | 1 => .bool true | 2 => .bool true | 3 => undef | 4 => undef | 5 => .bool true | 6 => .bool true | 7 => undef | 8 => undef | 9 => undef | 10 => undef | 11 => undef | 12 => .bool true | _ => undef) () A.1 (by kernel_rfl) (by decide) (by decide) (Below.refl _ _) ?_ ?_
    · intro i_ hi_ s a X hf hv hn hS
      match i_, hi_ with
      | 0, _ => exact stepV rfl rfl (execMvB rfl ((hf 6 (by decide)).trans t6)) ⟨s, ⟨_, rfl, rfl⟩, hS, fun _ _ => rfl⟩
      | 1, _ => exact stepV rfl rfl (execDec (execNeE (p := pE f n) (q := 0) rfl (hv 0 (by omega) _ rfl _ rfl) rfl) (decide_eq_true (by exact h1))) ⟨s, ⟨_, rfl, rfl⟩, hS, fun _ _ => rfl⟩
      | 2, _ => exact stepV rfl rfl (execMvB rfl (hv 1 (by omega) _ rfl _ rfl)) ⟨s, ⟨_, rfl, rfl⟩, hS, fun _ _ => rfl⟩
      | 3, _ => exact stepU rfl (unwantedOf rfl (yieldedAt rfl rfl (show a.eval (.tmp 23) = .bool (!false) from (hv 2 (by omega) _ rfl _ rfl)))) ⟨s, ⟨_, rfl, rfl⟩, hS, fun _ _ => rfl⟩
      | 4, _ => exact stepU rfl (unwantedOf rfl (yieldedAt rfl rfl (show a.eval (.tmp 23) = .bool (!false) from (hv 2 (by omega) _ rfl _ rfl)))) ⟨s, ⟨_, rfl, rfl⟩, hS, fun _ _ => rfl⟩
      | 5, _ => exact stepV rfl rfl (execPickT rfl (hv 2 (by omega) _ rfl _ rfl) rfl) ⟨s, ⟨_, rfl, rfl⟩, hS, fun _ _ => rfl⟩
      | 6, _ => exact stepV rfl rfl (execMvB rfl (hv 5 (by omega) _ rfl _ rfl)) ⟨s, ⟨_, rfl, rfl⟩, hS, fun _ _ => rfl⟩
      | 7, _ => exact stepU rfl (unwantedOf rfl (yieldedAt rfl rfl (show a.eval (.tmp 27) = .bool (!false) from (hv 6 (by omega) _ rfl _ rfl)))) ⟨s, ⟨_, rfl, rfl⟩, hS, fun _ _ => rfl⟩
      | 8, _ => exact stepU rfl (unwantedOf rfl (yieldedAt rfl rfl (show a.eval (.tmp 27) = .bool (!false) from (hv 6 (by omega) _ rfl _ rfl)))) ⟨s, ⟨_, rfl, rfl⟩, hS, fun _ _ => rfl⟩
      | 9, _ => exact stepU rfl (unwantedOf rfl (yieldedAt rfl rfl (show a.eval (.tmp 27) = .bool (!false) from (hv 6 (by omega) _ rfl _ rfl)))) ⟨s, ⟨_, rfl, rfl⟩, hS, fun _ _ => rfl⟩
      | 10, _ => exact stepU rfl (unwantedOf rfl (yieldedAt rfl rfl (show a.eval (.tmp 27) = .bool (!false) from (hv 6 (by omega) _ rfl _ rfl)))) ⟨s, ⟨_, rfl, rfl⟩, hS, fun _ _ => rfl⟩
      | 11, _ => exact stepU rfl (unwantedOf rfl (yieldedAt rfl rfl (show a.eval (.tmp 27) = .bool (!false) from (hv 6 (by omega) _ rfl _ rfl)))) ⟨s, ⟨_, rfl, rfl⟩, hS, fun _ _ => rfl⟩
      | 12, _ => exact stepV rfl rfl (execPickT rfl (hv 6 (by omega) _ rfl _ rfl) rfl) ⟨s, ⟨_, rfl, rfl⟩, hS, fun _ _ => rfl⟩
      | k_ + 13, h_ => exact absurd h_ (by simp)
    rintro _ a X5 h1 h2 h3 h4 hS
    replace hS : Below X4.heap.size X4 X5 := hS
    have bX := hS
    clear hS
    replace t0 := (h3 0 (by decide)).trans t0
    replace t1 := (h3 1 (by decide)).trans t1
    replace t5 := (h3 5 (by decide)).trans t5
    replace t6 := (h3 6 (by decide)).trans t6
    replace t7 := (h3 7 (by decide)).trans t7
    replace t8 := (h3 8 (by decide)).trans t8
    have t33 : a.eval (.tmp 33) = .bool true := h4 12 _ rfl _ rfl
    replace FI := (FI.on bX)
    replace FJ := (FJ.on bX)
    replace Fv13 := (Fv13.on bX)
    replace Fv18 := (Fv18.on bX)
    have ZX5 := bX.size
    replace BW := BW.trans (bX.mono BW.size)
    clear bX
    replace A := (⟨h1, h2.trans A.2⟩ : a.tmps.size = 50 ∧ a.defers = [])
    clear h1 h2 h3 h4
    refine wp_cond_true t33 ?_
    refine wp_seq ?_
    refine wp_region_sq (σ := Unit) 50 [(0, 4)] (fun j_ s X => match j_ with | 0 => Below X5.heap.size X5 X | _ => Below X5.heap.size X5 X) (fun s => fun i_ => match i_ with | 0 => .bool true | _ => undef) () A.1 (by kernel_rfl) (by decide) (by decide) (Below.refl _ _) ?_ ?_
    · intro i_ hi_ s a X hf hv hn hS
      match i_, hi_ with
      | 0, _ => exact stepV rfl rfl (execAsgB rfl rfl) ⟨s, ⟨_, rfl, rfl⟩, hS, fun _ _ => rfl⟩
      | k_ + 1, h_ => exact absurd h_ (by simp)
    rintro _ a X6 h1 h2 h3 h4 hS
    replace hS : Below X5.heap.size X5 X6 := hS
    have bX := hS
    clear hS
    have t4 : a.eval (.tmp 4) = .bool true := h4 0 _ rfl _ rfl
    replace FI := (FI.on bX)
    replace FJ := (FJ.on bX)
    replace Fv13 := (Fv13.on bX)
    replace Fv18 := (Fv18.on bX)
    have ZX6 := bX.size
    replace BW := BW.trans (bX.mono BW.size)
    clear bX
    replace A := (⟨h1, h2.trans A.2⟩ : a.tmps.size = 50 ∧ a.defers = [])
    clear h1 h2 h3 h4
    clear t0 t1 t5 t6 t7 t8
    refine wp_ret ?_
    repeat (first | refine ret_in ?_ | refine ret_then ?_)
    refine bodyPost_ret (results_tmp rfl _ _ _) A.2 ⟨?_, BW⟩
    show Ending.returned (a.eval (.tmp 4)) = _
    rw [t4]
end Go.Proofs.Ythiakjmjpchckaa.Prm
