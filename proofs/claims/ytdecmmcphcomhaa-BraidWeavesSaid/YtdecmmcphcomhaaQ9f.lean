import Derived.Test.YtdecmmcphcomhaaQ9c
namespace Go.Proofs.Ytdecmmcphcomhaa.Brd
open Go.RowKit Gf8 Aes By8 Cel Cf Tap Drw Prm
/- Stage 12: the law's same, lent, whole. Written by tools/mkQ9f.py. -/

/-- The first k are the same. -/
def eqL (f g : Nat → Int) : Nat → Bool
  | 0 => true
  | k + 1 => eqL f g k && decide (f k = g k)
theorem eqL_iff {f g : Nat → Int} : ∀ {k}, eqL f g k = true ↔ ∀ j, j < k → f j = g j
  | 0 => ⟨fun _ j hj => absurd hj (Nat.not_lt_zero _), fun _ => rfl⟩
  | k + 1 => by
    unfold eqL
    rw [Bool.and_eq_true, decide_eq_true_eq, eqL_iff]
    refine ⟨fun h j hj => ?_, fun h => ⟨fun j hj => h j (by omega), h k (by omega)⟩⟩
    by_cases e : j = k
    · subst e; exact h.2
    · exact h.1 j (by omega)
theorem eqL_succ {f g : Nat → Int} {i : Nat} (h : eqL f g i = true) (e : f i = g i) : eqL f g (i + 1) = true := by
  show (eqL f g i && decide (f i = g i)) = true
  rw [h, decide_eq_true e]
  rfl
theorem eqL_bad {f g : Nat → Int} {i n : Nat} (hi : i < n) (e : ¬ f i = g i) : eqL f g n = false := Bool.eq_false_iff.2 fun q => e (eqL_iff.1 q i hi)
theorem eqL_refl (f : Nat → Int) (n : Nat) : eqL f f n = true := eqL_iff.2 fun _ _ => rfl
theorem execNeIf {o : Oper} {a : Act} {w : World} {x y : Operand} {p q : Int} (ho : o.op = .binOp .neq 3 x y 3) (hx : a.eval x = .int .i64 p) (hy : a.eval y = .int .i64 q) (h : p = q) : (execOp a.eval o).run Try.prog w = .ok (.value (.bool false)) w := by
  subst h
  exact execNeI ho hx hy
theorem execNeIt {o : Oper} {a : Act} {w : World} {x y : Operand} {p q : Int} (ho : o.op = .binOp .neq 3 x y 3) (hx : a.eval x = .int .i64 p) (hy : a.eval y = .int .i64 q) (h : ¬ p = q) : (execOp a.eval o).run Try.prog w = .ok (.value (.bool true)) w := by
  unfold execOp
  simp only [ho, hx, hy]
  simp [go_sem, h]
set_option maxRecDepth 100000 in
set_option maxHeartbeats 4000000 in
/-- The law's same. -/
theorem same_any (f g : Nat → Int) (n m : Nat) (v u0 : Value) (V : World) (hv : SliceI V v n f) (hu : SliceI V u0 m g) (hn17 : n ≤ 17592186044416) :
    Calls Try.prog 14 #[v, u0] V fun e w' => e = .returned (.bool (decide (n = m) && eqL f g n)) ∧ Below V.heap.size V w' := by
  obtain ⟨ia, ic, rfl, -, -, hsh⟩ := id hv.shape
  obtain ⟨ja, jc, rfl, -, -, hsj⟩ := id hu.shape
  have FI := hv
  have FJ := hu
  go_enter Try.func14, Try.ntmps14
  refine wp_seq ?_
  refine wp_region_sqK 26 [(0, 4)] (fun i_ => match i_ with | 0 => .bool false | _ => undef) rfl (by kernel_rfl) (by decide) (by decide) ?_ ?_
  · intro i_ hi_ a hf hv hn
    match i_, hi_ with
    | 0, _ => exact stepV rfl rfl (execAsgB rfl rfl) ⟨⟨_, rfl, rfl⟩, rfl⟩
    | k_ + 1, h_ => exact absurd h_ (by simp)
  intro a h1 h2 h3 h4
  have t0 : a.eval (.tmp 0) = .slice ia n ic := (h3 0 (by decide)).trans rfl
  have t1 : a.eval (.tmp 1) = .slice ja m jc := (h3 1 (by decide)).trans rfl
  have A : a.tmps.size = 26 ∧ a.defers = [] := ⟨h1, h2⟩
  have BW : Below V.heap.size V V := Below.refl _ _
  clear h1 h2 h3 h4
  have BB := BW
  refine wp_seq ?_
  refine wp_seq ?_
  by_cases hnm : n = m
  · refine wp_region_sq (σ := Unit) 26 [(0, 6), (1, 7), (2, 8), (3, 9), (4, 10)] (fun j_ s X => match j_ with | 0 => Below V.heap.size V X | 1 => Below V.heap.size V X | 2 => Below V.heap.size V X | 3 => Below V.heap.size V X | 4 => Below V.heap.size V X | _ => Below V.heap.size V X) (fun s => fun i_ => match i_ with | 0 => .slice ia n ic | 1 => .int .i64 ((n : Nat) : Int) | 2 => .slice ja m jc | 3 => .int .i64 ((m : Nat) : Int) | 4 => .bool false | _ => undef) () A.1 (by kernel_rfl) (by decide) (by decide) (BB) ?_ ?_
    · intro i_ hi_ s a X hf hv hn hS
      match i_, hi_ with
      | 0, _ => exact stepV rfl rfl (execMvB rfl ((hf 0 (by decide)).trans t0)) ⟨s, ⟨_, rfl, rfl⟩, hS, fun _ _ => rfl⟩
      | 1, _ => exact stepV rfl rfl (execLenI (len := n) rfl (hv 0 (by omega) _ rfl _ rfl) ((FI.on hS)).shp) ⟨s, ⟨_, rfl, rfl⟩, hS, fun _ _ => rfl⟩
      | 2, _ => exact stepV rfl rfl (execMvB rfl ((hf 1 (by decide)).trans t1)) ⟨s, ⟨_, rfl, rfl⟩, hS, fun _ _ => rfl⟩
      | 3, _ => exact stepV rfl rfl (execLenI (len := m) rfl (hv 2 (by omega) _ rfl _ rfl) ((FJ.on hS)).shp) ⟨s, ⟨_, rfl, rfl⟩, hS, fun _ _ => rfl⟩
      | 4, _ => exact stepV rfl rfl (execDec (execNeN (p := n) (q := m) rfl (hv 1 (by omega) _ rfl _ rfl) (hv 3 (by omega) _ rfl _ rfl)) (decide_eq_false (by omega))) ⟨s, ⟨_, rfl, rfl⟩, hS, fun _ _ => rfl⟩
      | k_ + 5, h_ => exact absurd h_ (by simp)
    rintro _ a X1 h1 h2 h3 h4 hS
    clear BB
    replace hS : Below V.heap.size V X1 := hS
    have BB := hS
    clear hS
    replace t0 := (h3 0 (by decide)).trans t0
    replace t1 := (h3 1 (by decide)).trans t1
    have t10 : a.eval (.tmp 10) = .bool false := h4 4 _ rfl _ rfl
    replace A := (⟨h1, h2.trans A.2⟩ : a.tmps.size = 26 ∧ a.defers = [])
    clear h1 h2 h3 h4
    refine wp_cond_false t10 ?_
    refine wp_skip ?_
    clear t10
    rw [decide_eq_true hnm, Bool.true_and]
    subst hnm
    refine wp_seq ?_
    refine wp_seq ?_
    refine wp_region_sq (σ := Unit) 26 [(0, 11), (1, 12), (2, 13)] (fun j_ s X => match j_ with | 0 => Below V.heap.size V X | 1 => Below V.heap.size V X | 2 => Below V.heap.size V X | _ => Below V.heap.size V X) (fun s => fun i_ => match i_ with | 0 => .slice ia n ic | 1 => .int .i64 ((n : Nat) : Int) | 2 => .int .i64 ((0 : Nat) : Int) | _ => undef) () A.1 (by kernel_rfl) (by decide) (by decide) (BB) ?_ ?_
    · intro i_ hi_ s a X hf hv hn hS
      match i_, hi_ with
      | 0, _ => exact stepV rfl rfl (execMvB rfl ((hf 0 (by decide)).trans t0)) ⟨s, ⟨_, rfl, rfl⟩, hS, fun _ _ => rfl⟩
      | 1, _ => exact stepV rfl rfl (execLenI (len := n) rfl (hv 0 (by omega) _ rfl _ rfl) ((FI.on hS)).shp) ⟨s, ⟨_, rfl, rfl⟩, hS, fun _ _ => rfl⟩
      | 2, _ => exact stepV rfl rfl (execMvB rfl rfl) ⟨s, ⟨_, rfl, rfl⟩, hS, fun _ _ => rfl⟩
      | k_ + 3, h_ => exact absurd h_ (by simp)
    rintro _ a X3 h1 h2 h3 h4 hS
    clear BB
    replace hS : Below V.heap.size V X3 := hS
    have BB := hS
    clear hS
    replace t0 := (h3 0 (by decide)).trans t0
    replace t1 := (h3 1 (by decide)).trans t1
    have t12 : a.eval (.tmp 12) = .int .i64 ((n : Nat) : Int) := h4 1 _ rfl _ rfl
    have t13 : a.eval (.tmp 13) = .int .i64 ((0 : Nat) : Int) := h4 2 _ rfl _ rfl
    replace A := (⟨h1, h2.trans A.2⟩ : a.tmps.size = 26 ∧ a.defers = [])
    clear h1 h2 h3 h4
    refine wp_block ?_
    refine wp_loop (fun a W => ∃ (i : Nat), i ≤ n ∧ (eqL f g i = true) ∧ (a.tmps.size = 26 ∧ a.defers = []) ∧ a.eval (.tmp 0) = .slice ia n ic ∧ a.eval (.tmp 1) = .slice ja n jc ∧ a.eval (.tmp 12) = .int .i64 ((n : Nat) : Int) ∧ a.eval (.tmp 13) = .int .i64 ((i : Nat) : Int) ∧ Below V.heap.size V W) (fun a _ => n - (intOf (a.eval (.tmp 13))).toNat) ⟨0, Nat.zero_le _, rfl, A, t0, t1, t12, t13, BB⟩ ?_
    clear A t0 t1 t12 t13 BB a
    rintro a XL4 ⟨i, hi, hok, A, t0, t1, t12, t13, BB⟩
    have esi := t13
    refine wp_seq ?_
    refine wp_region_sq (σ := Unit) 26 [(0, 14)] (fun j_ s X => match j_ with | 0 => Below V.heap.size V X | _ => Below V.heap.size V X) (fun s => fun i_ => match i_ with | 0 => .bool (decide (i < n)) | _ => undef) () A.1 (by kernel_rfl) (by decide) (by decide) (BB) ?_ ?_
    · intro i_ hi_ s a X hf hv hn hS
      match i_, hi_ with
      | 0, _ => exact stepV rfl rfl (execLtW (p := i) (q := n) rfl ((hf 13 (by decide)).trans t13) ((hf 12 (by decide)).trans t12)) ⟨s, ⟨_, rfl, rfl⟩, hS, fun _ _ => rfl⟩
      | k_ + 1, h_ => exact absurd h_ (by simp)
    rintro _ a X4 h1 h2 h3 h4 hS
    clear BB
    replace hS : Below V.heap.size V X4 := hS
    have BB := hS
    clear hS
    replace t0 := (h3 0 (by decide)).trans t0
    replace t1 := (h3 1 (by decide)).trans t1
    replace t12 := (h3 12 (by decide)).trans t12
    replace t13 := (h3 13 (by decide)).trans t13
    have t14 : a.eval (.tmp 14) = .bool (decide (i < n)) := h4 0 _ rfl _ rfl
    replace A := (⟨h1, h2.trans A.2⟩ : a.tmps.size = 26 ∧ a.defers = [])
    clear h1 h2 h3 h4
    refine wp_seq ?_
    by_cases lti : i < n
    · rw [decide_eq_true lti] at t14
      refine wp_cond_true t14 ?_
      refine wp_skip ?_
      clear t14
      refine wp_seq ?_
      refine wp_block ?_
      obtain ⟨ib, io, rfl, hib, hcell⟩ := hsh (by omega)
      obtain ⟨jb, jo, rfl, hjb, hcelj⟩ := hsj (by omega)
      have cI : ∀ k, k < n → ∀ X, Below V.heap.size V X → X.cell? ⟨ib, io + k, none⟩ = some (.int .i64 (f k)) := fun k hk X hX => by rw [cell_below hX hib]; exact hcell k hk
      have cJ : ∀ k, k < n → ∀ X, Below V.heap.size V X → X.cell? ⟨jb, jo + k, none⟩ = some (.int .i64 (g k)) := fun k hk X hX => by rw [cell_below hX hjb]; exact hcelj k hk
      by_cases he : f i = g i
      · refine wp_seq ?_
        refine wp_region_sq (σ := Unit) 26 [(0, 15), (1, 5)] (fun j_ s X => match j_ with | 0 => Below V.heap.size V X | 1 => Below V.heap.size V X | _ => Below V.heap.size V X) (fun s => fun i_ => match i_ with | 0 => .int .i64 ((i : Nat) : Int) | 1 => .int .i64 ((i : Nat) : Int) | _ => undef) () A.1 (by kernel_rfl) (by decide) (by decide) (BB) ?_ ?_
        · intro i_ hi_ s a X hf hv hn hS
          match i_, hi_ with
          | 0, _ => exact stepV rfl rfl (execMvB rfl ((hf 13 (by decide)).trans t13)) ⟨s, ⟨_, rfl, rfl⟩, hS, fun _ _ => rfl⟩
          | 1, _ => exact stepV rfl rfl (execAsgB rfl (hv 0 (by omega) _ rfl _ rfl)) ⟨s, ⟨_, rfl, rfl⟩, hS, fun _ _ => rfl⟩
          | k_ + 2, h_ => exact absurd h_ (by simp)
        rintro _ a X5 h1 h2 h3 h4 hS
        clear BB
        replace hS : Below V.heap.size V X5 := hS
        have BB := hS
        clear hS
        replace t0 := (h3 0 (by decide)).trans t0
        replace t1 := (h3 1 (by decide)).trans t1
        replace t12 := (h3 12 (by decide)).trans t12
        replace t13 := (h3 13 (by decide)).trans t13
        have t5 : a.eval (.tmp 5) = .int .i64 ((i : Nat) : Int) := h4 1 _ rfl _ rfl
        replace A := (⟨h1, h2.trans A.2⟩ : a.tmps.size = 26 ∧ a.defers = [])
        clear h1 h2 h3 h4
        refine wp_seq ?_
        refine wp_region_detA 26 [(0, 16), (1, 17), (2, 18), (3, 19), (4, 20), (5, 21), (6, 22), (7, 23), (8, 24)] (fun i_ => match i_ with | 0 => .slice (some ⟨ib, io, none⟩) n ic | 1 => .int .i64 ((i : Nat) : Int) | 2 => .pointer (some ⟨ib, io + i, none⟩) | 3 => .int .i64 (f i) | 4 => .slice (some ⟨jb, jo, none⟩) n jc | 5 => .int .i64 ((i : Nat) : Int) | 6 => .pointer (some ⟨jb, jo + i, none⟩) | 7 => .int .i64 (g i) | 8 => .bool false | _ => undef) (fun _ X => Below V.heap.size V X) (by kernel_rfl) (by kernel_rfl) A.1 (by kernel_rfl) (by decide) (by decide) BB.drew ?_ ?_
        · intro i_ hi_ l_ a X hl_ hf hdep hl2 hcl hno hT
          match i_, hi_ with
          | 0, _ => exact stepV rfl rfl (execMvB rfl ((hf 0 (by decide)).trans t0)) ⟨⟨_, rfl, rfl⟩, hT⟩
          | 1, _ => exact stepV rfl rfl (execMvB rfl ((hf 5 (by decide)).trans t5)) ⟨⟨_, rfl, rfl⟩, hT⟩
          | 2, _ => exact stepV rfl rfl (execIdxN (k := i) rfl (hdep _ rfl 0 rfl _ rfl _ rfl) (hdep _ rfl 1 rfl _ rfl _ rfl) lti) ⟨⟨_, rfl, rfl⟩, hT⟩
          | 3, _ => exact stepV rfl rfl (execLd3 rfl (hdep _ rfl 2 rfl _ rfl _ rfl) (cI i lti X hT)) ⟨⟨_, rfl, rfl⟩, hT⟩
          | 4, _ => exact stepV rfl rfl (execMvB rfl ((hf 1 (by decide)).trans t1)) ⟨⟨_, rfl, rfl⟩, hT⟩
          | 5, _ => exact stepV rfl rfl (execMvB rfl ((hf 5 (by decide)).trans t5)) ⟨⟨_, rfl, rfl⟩, hT⟩
          | 6, _ => exact stepV rfl rfl (execIdxN (k := i) rfl (hdep _ rfl 4 rfl _ rfl _ rfl) (hdep _ rfl 5 rfl _ rfl _ rfl) lti) ⟨⟨_, rfl, rfl⟩, hT⟩
          | 7, _ => exact stepV rfl rfl (execLd3 rfl (hdep _ rfl 6 rfl _ rfl _ rfl) (cJ i lti X hT)) ⟨⟨_, rfl, rfl⟩, hT⟩
          | 8, _ => exact stepV rfl rfl (execNeIf rfl (hdep _ rfl 3 rfl _ rfl _ rfl) (hdep _ rfl 7 rfl _ rfl _ rfl) he) ⟨⟨_, rfl, rfl⟩, hT⟩
          | k_ + 9, h_ => exact absurd h_ (by simp)
        intro l_ a X6 h1 h2 h3 h4 hall hT
        clear hall
        clear BB
        have BB := hT
        clear hT
        replace t0 := (h3 0 (by decide)).trans t0
        replace t1 := (h3 1 (by decide)).trans t1
        replace t12 := (h3 12 (by decide)).trans t12
        replace t13 := (h3 13 (by decide)).trans t13
        have t24 : a.eval (.tmp 24) = .bool false := h4 (8, 24) (by decide)
        replace A := (⟨h1, h2.trans A.2⟩ : a.tmps.size = 26 ∧ a.defers = [])
        clear h1 h2 h3 h4
        clear t5
        refine wp_cond_false t24 ?_
        refine wp_skip ?_
        clear t24
        refine wp_region_sq (σ := Unit) 26 [(0, 25), (1, 13)] (fun j_ s X => match j_ with | 0 => Below V.heap.size V X | 1 => Below V.heap.size V X | _ => Below V.heap.size V X) (fun s => fun i_ => match i_ with | 0 => .int .i64 ((i + 1 : Nat) : Int) | 1 => .int .i64 ((i + 1 : Nat) : Int) | _ => undef) () A.1 (by kernel_rfl) (by decide) (by decide) (BB) ?_ ?_
        · intro i_ hi_ s a X hf hv hn hS
          match i_, hi_ with
          | 0, _ => exact stepV rfl rfl (execAd8 (p := i) (q := 1) rfl ((hn 1 (by omega) _ rfl _ rfl).trans t13) rfl (by omega)) ⟨s, ⟨_, rfl, rfl⟩, hS, fun _ _ => rfl⟩
          | 1, _ => exact stepV rfl rfl (execMvB rfl (hv 0 (by omega) _ rfl _ rfl)) ⟨s, ⟨_, rfl, rfl⟩, hS, fun _ _ => rfl⟩
          | k_ + 2, h_ => exact absurd h_ (by simp)
        rintro _ a X8 h1 h2 h3 h4 hS
        clear BB
        replace hS : Below V.heap.size V X8 := hS
        have BB := hS
        clear hS
        replace t0 := (h3 0 (by decide)).trans t0
        replace t1 := (h3 1 (by decide)).trans t1
        replace t12 := (h3 12 (by decide)).trans t12
        replace t13 : a.eval (.tmp 13) = .int .i64 ((i + 1 : Nat) : Int) := h4 1 _ rfl _ rfl
        replace A := (⟨h1, h2.trans A.2⟩ : a.tmps.size = 26 ∧ a.defers = [])
        clear h1 h2 h3 h4
        exact ⟨⟨i + 1, lti, eqL_succ hok he, A, t0, t1, t12, t13, BB⟩, by show n - (intOf (a.eval (.tmp 13))).toNat < n - (intOf (Act.eval _ (.tmp 13))).toNat; rw [t13, esi]; show n - (i + 1) < n - i; omega⟩
      · refine wp_seq ?_
        refine wp_region_sq (σ := Unit) 26 [(0, 15), (1, 5)] (fun j_ s X => match j_ with | 0 => Below V.heap.size V X | 1 => Below V.heap.size V X | _ => Below V.heap.size V X) (fun s => fun i_ => match i_ with | 0 => .int .i64 ((i : Nat) : Int) | 1 => .int .i64 ((i : Nat) : Int) | _ => undef) () A.1 (by kernel_rfl) (by decide) (by decide) (BB) ?_ ?_
        · intro i_ hi_ s a X hf hv hn hS
          match i_, hi_ with
          | 0, _ => exact stepV rfl rfl (execMvB rfl ((hf 13 (by decide)).trans t13)) ⟨s, ⟨_, rfl, rfl⟩, hS, fun _ _ => rfl⟩
          | 1, _ => exact stepV rfl rfl (execAsgB rfl (hv 0 (by omega) _ rfl _ rfl)) ⟨s, ⟨_, rfl, rfl⟩, hS, fun _ _ => rfl⟩
          | k_ + 2, h_ => exact absurd h_ (by simp)
        rintro _ a X5 h1 h2 h3 h4 hS
        clear BB
        replace hS : Below V.heap.size V X5 := hS
        have BB := hS
        clear hS
        replace t0 := (h3 0 (by decide)).trans t0
        replace t1 := (h3 1 (by decide)).trans t1
        replace t12 := (h3 12 (by decide)).trans t12
        replace t13 := (h3 13 (by decide)).trans t13
        have t5 : a.eval (.tmp 5) = .int .i64 ((i : Nat) : Int) := h4 1 _ rfl _ rfl
        replace A := (⟨h1, h2.trans A.2⟩ : a.tmps.size = 26 ∧ a.defers = [])
        clear h1 h2 h3 h4
        refine wp_seq ?_
        refine wp_region_detA 26 [(0, 16), (1, 17), (2, 18), (3, 19), (4, 20), (5, 21), (6, 22), (7, 23), (8, 24)] (fun i_ => match i_ with | 0 => .slice (some ⟨ib, io, none⟩) n ic | 1 => .int .i64 ((i : Nat) : Int) | 2 => .pointer (some ⟨ib, io + i, none⟩) | 3 => .int .i64 (f i) | 4 => .slice (some ⟨jb, jo, none⟩) n jc | 5 => .int .i64 ((i : Nat) : Int) | 6 => .pointer (some ⟨jb, jo + i, none⟩) | 7 => .int .i64 (g i) | 8 => .bool true | _ => undef) (fun _ X => Below V.heap.size V X) (by kernel_rfl) (by kernel_rfl) A.1 (by kernel_rfl) (by decide) (by decide) BB.drew ?_ ?_
        · intro i_ hi_ l_ a X hl_ hf hdep hl2 hcl hno hT
          match i_, hi_ with
          | 0, _ => exact stepV rfl rfl (execMvB rfl ((hf 0 (by decide)).trans t0)) ⟨⟨_, rfl, rfl⟩, hT⟩
          | 1, _ => exact stepV rfl rfl (execMvB rfl ((hf 5 (by decide)).trans t5)) ⟨⟨_, rfl, rfl⟩, hT⟩
          | 2, _ => exact stepV rfl rfl (execIdxN (k := i) rfl (hdep _ rfl 0 rfl _ rfl _ rfl) (hdep _ rfl 1 rfl _ rfl _ rfl) lti) ⟨⟨_, rfl, rfl⟩, hT⟩
          | 3, _ => exact stepV rfl rfl (execLd3 rfl (hdep _ rfl 2 rfl _ rfl _ rfl) (cI i lti X hT)) ⟨⟨_, rfl, rfl⟩, hT⟩
          | 4, _ => exact stepV rfl rfl (execMvB rfl ((hf 1 (by decide)).trans t1)) ⟨⟨_, rfl, rfl⟩, hT⟩
          | 5, _ => exact stepV rfl rfl (execMvB rfl ((hf 5 (by decide)).trans t5)) ⟨⟨_, rfl, rfl⟩, hT⟩
          | 6, _ => exact stepV rfl rfl (execIdxN (k := i) rfl (hdep _ rfl 4 rfl _ rfl _ rfl) (hdep _ rfl 5 rfl _ rfl _ rfl) lti) ⟨⟨_, rfl, rfl⟩, hT⟩
          | 7, _ => exact stepV rfl rfl (execLd3 rfl (hdep _ rfl 6 rfl _ rfl _ rfl) (cJ i lti X hT)) ⟨⟨_, rfl, rfl⟩, hT⟩
          | 8, _ => exact stepV rfl rfl (execNeIt rfl (hdep _ rfl 3 rfl _ rfl _ rfl) (hdep _ rfl 7 rfl _ rfl _ rfl) he) ⟨⟨_, rfl, rfl⟩, hT⟩
          | k_ + 9, h_ => exact absurd h_ (by simp)
        intro l_ a X6 h1 h2 h3 h4 hall hT
        clear hall
        clear BB
        have BB := hT
        clear hT
        replace t0 := (h3 0 (by decide)).trans t0
        replace t1 := (h3 1 (by decide)).trans t1
        replace t12 := (h3 12 (by decide)).trans t12
        replace t13 := (h3 13 (by decide)).trans t13
        have t24 : a.eval (.tmp 24) = .bool true := h4 (8, 24) (by decide)
        replace A := (⟨h1, h2.trans A.2⟩ : a.tmps.size = 26 ∧ a.defers = [])
        clear h1 h2 h3 h4
        clear t5
        refine wp_cond_true t24 ?_
        refine wp_seq ?_
        refine wp_region_sq (σ := Unit) 26 [(0, 4)] (fun j_ s X => match j_ with | 0 => Below V.heap.size V X | _ => Below V.heap.size V X) (fun s => fun i_ => match i_ with | 0 => .bool false | _ => undef) () A.1 (by kernel_rfl) (by decide) (by decide) (BB) ?_ ?_
        · intro i_ hi_ s a X hf hv hn hS
          match i_, hi_ with
          | 0, _ => exact stepV rfl rfl (execAsgB rfl rfl) ⟨s, ⟨_, rfl, rfl⟩, hS, fun _ _ => rfl⟩
          | k_ + 1, h_ => exact absurd h_ (by simp)
        rintro _ a X7 h1 h2 h3 h4 hS
        clear BB
        replace hS : Below V.heap.size V X7 := hS
        have BB := hS
        clear hS
        have t4 : a.eval (.tmp 4) = .bool false := h4 0 _ rfl _ rfl
        replace A := (⟨h1, h2.trans A.2⟩ : a.tmps.size = 26 ∧ a.defers = [])
        clear h1 h2 h3 h4
        clear t0 t1 t12 t13
        rw [eqL_bad lti he]
        refine wp_ret ?_
        repeat (first | refine ret_in ?_ | refine ret_then ?_)
        refine bodyPost_ret (results_tmp rfl _ _ _) A.2 ⟨?_, BB⟩
        show Ending.returned (a.eval (.tmp 4)) = _
        rw [t4]
    · rw [decide_eq_false lti] at t14
      refine wp_cond_false t14 ?_
      refine wp_exit ?_
      first | refine exit_in ?_ | refine exit_then (exit_in ?_) | refine exit_then (exit_then (exit_in ?_))
      clear t14 esi
      obtain rfl : i = n := by omega
      rw [hok]
      clear t0 t1 t12 t13
      refine wp_seq ?_
      refine wp_region_sq (σ := Unit) 26 [(0, 4)] (fun j_ s X => match j_ with | 0 => Below V.heap.size V X | _ => Below V.heap.size V X) (fun s => fun i_ => match i_ with | 0 => .bool true | _ => undef) () A.1 (by kernel_rfl) (by decide) (by decide) (BB) ?_ ?_
      · intro i_ hi_ s a X hf hv hn hS
        match i_, hi_ with
        | 0, _ => exact stepV rfl rfl (execAsgB rfl rfl) ⟨s, ⟨_, rfl, rfl⟩, hS, fun _ _ => rfl⟩
        | k_ + 1, h_ => exact absurd h_ (by simp)
      rintro _ a X9 h1 h2 h3 h4 hS
      clear BB
      replace hS : Below V.heap.size V X9 := hS
      have BB := hS
      clear hS
      have t4 : a.eval (.tmp 4) = .bool true := h4 0 _ rfl _ rfl
      replace A := (⟨h1, h2.trans A.2⟩ : a.tmps.size = 26 ∧ a.defers = [])
      clear h1 h2 h3 h4
      refine wp_ret ?_
      repeat (first | refine ret_in ?_ | refine ret_then ?_)
      refine bodyPost_ret (results_tmp rfl _ _ _) A.2 ⟨?_, BB⟩
      show Ending.returned (a.eval (.tmp 4)) = _
      rw [t4]
  · refine wp_region_sq (σ := Unit) 26 [(0, 6), (1, 7), (2, 8), (3, 9), (4, 10)] (fun j_ s X => match j_ with | 0 => Below V.heap.size V X | 1 => Below V.heap.size V X | 2 => Below V.heap.size V X | 3 => Below V.heap.size V X | 4 => Below V.heap.size V X | _ => Below V.heap.size V X) (fun s => fun i_ => match i_ with | 0 => .slice ia n ic | 1 => .int .i64 ((n : Nat) : Int) | 2 => .slice ja m jc | 3 => .int .i64 ((m : Nat) : Int) | 4 => .bool true | _ => undef) () A.1 (by kernel_rfl) (by decide) (by decide) (BB) ?_ ?_
    · intro i_ hi_ s a X hf hv hn hS
      match i_, hi_ with
      | 0, _ => exact stepV rfl rfl (execMvB rfl ((hf 0 (by decide)).trans t0)) ⟨s, ⟨_, rfl, rfl⟩, hS, fun _ _ => rfl⟩
      | 1, _ => exact stepV rfl rfl (execLenI (len := n) rfl (hv 0 (by omega) _ rfl _ rfl) ((FI.on hS)).shp) ⟨s, ⟨_, rfl, rfl⟩, hS, fun _ _ => rfl⟩
      | 2, _ => exact stepV rfl rfl (execMvB rfl ((hf 1 (by decide)).trans t1)) ⟨s, ⟨_, rfl, rfl⟩, hS, fun _ _ => rfl⟩
      | 3, _ => exact stepV rfl rfl (execLenI (len := m) rfl (hv 2 (by omega) _ rfl _ rfl) ((FJ.on hS)).shp) ⟨s, ⟨_, rfl, rfl⟩, hS, fun _ _ => rfl⟩
      | 4, _ => exact stepV rfl rfl (execDec (execNeN (p := n) (q := m) rfl (hv 1 (by omega) _ rfl _ rfl) (hv 3 (by omega) _ rfl _ rfl)) (decide_eq_true (by omega))) ⟨s, ⟨_, rfl, rfl⟩, hS, fun _ _ => rfl⟩
      | k_ + 5, h_ => exact absurd h_ (by simp)
    rintro _ a X1 h1 h2 h3 h4 hS
    clear BB
    replace hS : Below V.heap.size V X1 := hS
    have BB := hS
    clear hS
    replace t0 := (h3 0 (by decide)).trans t0
    replace t1 := (h3 1 (by decide)).trans t1
    have t10 : a.eval (.tmp 10) = .bool true := h4 4 _ rfl _ rfl
    replace A := (⟨h1, h2.trans A.2⟩ : a.tmps.size = 26 ∧ a.defers = [])
    clear h1 h2 h3 h4
    refine wp_cond_true t10 ?_
    refine wp_seq ?_
    refine wp_region_sq (σ := Unit) 26 [(0, 4)] (fun j_ s X => match j_ with | 0 => Below V.heap.size V X | _ => Below V.heap.size V X) (fun s => fun i_ => match i_ with | 0 => .bool false | _ => undef) () A.1 (by kernel_rfl) (by decide) (by decide) (BB) ?_ ?_
    · intro i_ hi_ s a X hf hv hn hS
      match i_, hi_ with
      | 0, _ => exact stepV rfl rfl (execAsgB rfl rfl) ⟨s, ⟨_, rfl, rfl⟩, hS, fun _ _ => rfl⟩
      | k_ + 1, h_ => exact absurd h_ (by simp)
    rintro _ a X2 h1 h2 h3 h4 hS
    clear BB
    replace hS : Below V.heap.size V X2 := hS
    have BB := hS
    clear hS
    have t4 : a.eval (.tmp 4) = .bool false := h4 0 _ rfl _ rfl
    replace A := (⟨h1, h2.trans A.2⟩ : a.tmps.size = 26 ∧ a.defers = [])
    clear h1 h2 h3 h4
    clear t0 t1
    rw [decide_eq_false hnm, Bool.false_and]
    refine wp_ret ?_
    repeat (first | refine ret_in ?_ | refine ret_then ?_)
    refine bodyPost_ret (results_tmp rfl _ _ _) A.2 ⟨?_, BB⟩
    show Ending.returned (a.eval (.tmp 4)) = _
    rw [t4]
set_option maxRecDepth 100000 in
set_option maxHeartbeats 4000000 in
/-- The law's lent. -/
theorem lent_any (f : Nat → Int) (n : Nat) (lv : Value) (V : World) (hv : SliceI V lv n f) (hz : ∀ l c, lv = .slice none l c → c = 0) (hn17 : n ≤ 17592186044000) :
    Calls Try.prog 16 #[lv] V fun e w' => ∃ gr cr, e = .returned (.tuple #[.slice (some ⟨gr, 0, none⟩) n cr, .slice (some ⟨gr, 0, none⟩) (n + 2) cr]) ∧ w'.ownsRow V.heap.size 3 1 (.slice (some ⟨gr, 0, none⟩) (n + 2) cr) (n + 2) (intsL (n + 2) (catI n f (fun j => if j = 0 then -77 else -78))) ∧ Below V.heap.size V w' := by
  have FI := hv
  go_enter Try.func16, Try.ntmps16
  refine wp_seq ?_
  refine wp_region_sqK 14 [(0, 2), (1, 3)] (fun i_ => match i_ with | 0 => .slice none 0 0 | 1 => .slice none 0 0 | _ => undef) rfl (by kernel_rfl) (by decide) (by decide) ?_ ?_
  · intro i_ hi_ a hf hv hn
    match i_, hi_ with
    | 0, _ => exact stepV rfl rfl (execAsgB rfl rfl) ⟨⟨_, rfl, rfl⟩, rfl⟩
    | 1, _ => exact stepV rfl rfl (execAsgB rfl rfl) ⟨⟨_, rfl, rfl⟩, rfl⟩
    | k_ + 2, h_ => exact absurd h_ (by simp)
  intro a h1 h2 h3 h4
  have t0 : a.eval (.tmp 0) = lv := (h3 0 (by decide)).trans rfl
  have A : a.tmps.size = 14 ∧ a.defers = [] := ⟨h1, h2⟩
  have BW : Below V.heap.size V V := Below.refl _ _
  clear h1 h2 h3 h4
  have BB := BW
  refine wp_seq ?_
  refine wp_region_sq (σ := Nat × Value × Nat × Value) 14 [(0, 4), (1, 5), (2, 6), (3, 7), (4, 8), (5, 3)] (fun j_ s X => match j_ with | 0 => Below V.heap.size V X | 1 => Below V.heap.size V X ∧ (X.ownsRow V.heap.size 3 1 (.slice (some ⟨s.1, 0, none⟩) 0 0) (0) (intsL (0) (fun _ => 0))) | 2 => Below V.heap.size V X ∧ (X.ownsRow V.heap.size 3 1 (.slice (some ⟨s.1, 0, none⟩) 0 0) (0) (intsL (0) (fun _ => 0))) | 3 => Below V.heap.size V X ∧ (X.ownsRow V.heap.size 3 1 s.2.1 (n) (intsL (n) (f))) | 4 => Below V.heap.size V X ∧ (X.ownsRow V.heap.size 3 1 s.2.1 (n) (intsL (n) (f))) ∧ (SliceI X (.slice (some ⟨s.2.2.1, 0, none⟩) 2 2) (2) (fun j => if j = 0 then -77 else -78)) | 5 => Below V.heap.size V X ∧ (X.ownsRow V.heap.size 3 1 s.2.2.2 (n + 2) (intsL (n + 2) (catI n f (fun j => if j = 0 then -77 else -78)))) | _ => Below V.heap.size V X ∧ (X.ownsRow V.heap.size 3 1 s.2.2.2 (n + 2) (intsL (n + 2) (catI n f (fun j => if j = 0 then -77 else -78))))) (fun s => fun i_ => match i_ with | 0 => .slice (some ⟨s.1, 0, none⟩) 0 0 | 1 => lv | 2 => s.2.1 | 3 => .slice (some ⟨s.2.2.1, 0, none⟩) 2 2 | 4 => s.2.2.2 | 5 => s.2.2.2 | _ => undef) (0, undef, 0, undef) A.1 (by kernel_rfl) (by decide) (by decide) (BB) ?_ ?_
  · intro i_ hi_ s a X hf hv hn hS
    match i_, hi_ with
    | 0, _ =>
      refine stepV rfl rfl (execBs0I rfl) ⟨(X.heap.size, s.2.1, s.2.2.1, s.2.2.2), ⟨_, rfl, rfl⟩, ⟨(hS).trans (((belNew X _)).mono (hS).size), ownD_base (own_noneI X _) (hS).size⟩, fun i hi => ?_⟩
      omega
    | 1, _ => exact stepV rfl rfl (execMvB rfl ((hf 0 (by decide)).trans t0)) ⟨s, ⟨_, rfl, rfl⟩, hS, fun _ _ => rfl⟩
    | 2, _ =>
      refine stepAppIs (f := fun _ => 0) (g := f) rfl rfl rfl (hv 0 (by omega) _ rfl _ rfl) (hv 1 (by omega) _ rfl _ rfl) hS.2 (FI.on hS.1) hz (by omega) (hS.1).size fun v' W' own' gr => ⟨(s.1, v', s.2.2.1, s.2.2.2), ⟨_, rfl, rfl⟩, ⟨(hS.1).grown gr (hS.1).size (fun k hk => (hS.2.lt k hk).1), own_cat0 own'⟩, fun i hi => ?_⟩
      match i, hi with
      | 0, _ => rfl
      | 1, _ => rfl
      | n_ + 2, h_ => omega
    | 3, _ =>
      refine stepV rfl rfl (execBsI2 (y := -77) (z := -78) rfl) ⟨(s.1, s.2.1, X.heap.size, s.2.2.2), ⟨_, rfl, rfl⟩, ⟨(hS.1).trans (((belNew X _)).mono (hS.1).size), (ownD_below hS.2 (belNew X _)), sliceI2 X (-77) (-78) (by omega) (by omega)⟩, fun i hi => ?_⟩
      match i, hi with
      | 0, _ => rfl
      | 1, _ => rfl
      | 2, _ => rfl
      | n_ + 3, h_ => omega
    | 4, _ =>
      refine stepAppIs (f := f) (g := fun j => if j = 0 then -77 else -78) rfl rfl rfl (hv 2 (by omega) _ rfl _ rfl) (hv 3 (by omega) _ rfl _ rfl) hS.2.1 hS.2.2 (fun l c e => by cases e) (by omega) (hS.1).size fun v' W' own' gr => ⟨(s.1, s.2.1, s.2.2.1, v'), ⟨_, rfl, rfl⟩, ⟨(hS.1).grown gr (hS.1).size (fun k hk => (hS.2.1.lt k hk).1), own'⟩, fun i hi => ?_⟩
      match i, hi with
      | 0, _ => rfl
      | 1, _ => rfl
      | 2, _ => rfl
      | 3, _ => rfl
      | n_ + 4, h_ => omega
    | 5, _ => exact stepV rfl rfl (execAsgB rfl (hv 4 (by omega) _ rfl _ rfl)) ⟨s, ⟨_, rfl, rfl⟩, hS, fun _ _ => rfl⟩
    | k_ + 6, h_ => exact absurd h_ (by simp)
  rintro ⟨g4, v6, g7, v8⟩ a X1 h1 h2 h3 h4 hS
  clear BB
  replace hS : Below V.heap.size V X1 ∧ (X1.ownsRow V.heap.size 3 1 v8 (n + 2) (intsL (n + 2) (catI n f (fun j => if j = 0 then -77 else -78)))) := hS
  obtain ⟨BB, Fv8⟩ := hS
  replace t0 := (h3 0 (by decide)).trans t0
  have t3 : a.eval (.tmp 3) = v8 := h4 5 _ rfl _ rfl
  replace A := (⟨h1, h2.trans A.2⟩ : a.tmps.size = 14 ∧ a.defers = [])
  clear h1 h2 h3 h4
  obtain ⟨gr, cr, rfl, _, _⟩ := ownL_some9 Fv8 (by omega)
  have hcr := own_cap Fv8
  refine wp_seq ?_
  refine wp_region_sq (σ := Unit) 14 [(0, 9), (1, 10), (2, 11), (3, 12), (4, 13), (5, 2), (6, 3)] (fun j_ s X => match j_ with | 0 => Below V.heap.size V X ∧ (X.ownsRow V.heap.size 3 1 (.slice (some ⟨gr, 0, none⟩) (n + 2) cr) (n + 2) (intsL (n + 2) (catI n f (fun j => if j = 0 then -77 else -78)))) | 1 => Below V.heap.size V X ∧ (X.ownsRow V.heap.size 3 1 (.slice (some ⟨gr, 0, none⟩) (n + 2) cr) (n + 2) (intsL (n + 2) (catI n f (fun j => if j = 0 then -77 else -78)))) | 2 => Below V.heap.size V X ∧ (X.ownsRow V.heap.size 3 1 (.slice (some ⟨gr, 0, none⟩) (n + 2) cr) (n + 2) (intsL (n + 2) (catI n f (fun j => if j = 0 then -77 else -78)))) | 3 => Below V.heap.size V X ∧ (X.ownsRow V.heap.size 3 1 (.slice (some ⟨gr, 0, none⟩) (n + 2) cr) (n + 2) (intsL (n + 2) (catI n f (fun j => if j = 0 then -77 else -78)))) | 4 => Below V.heap.size V X ∧ (X.ownsRow V.heap.size 3 1 (.slice (some ⟨gr, 0, none⟩) (n + 2) cr) (n + 2) (intsL (n + 2) (catI n f (fun j => if j = 0 then -77 else -78)))) | 5 => Below V.heap.size V X ∧ (X.ownsRow V.heap.size 3 1 (.slice (some ⟨gr, 0, none⟩) (n + 2) cr) (n + 2) (intsL (n + 2) (catI n f (fun j => if j = 0 then -77 else -78)))) | 6 => Below V.heap.size V X ∧ (X.ownsRow V.heap.size 3 1 (.slice (some ⟨gr, 0, none⟩) (n + 2) cr) (n + 2) (intsL (n + 2) (catI n f (fun j => if j = 0 then -77 else -78)))) | _ => Below V.heap.size V X ∧ (X.ownsRow V.heap.size 3 1 (.slice (some ⟨gr, 0, none⟩) (n + 2) cr) (n + 2) (intsL (n + 2) (catI n f (fun j => if j = 0 then -77 else -78))))) (fun s => fun i_ => match i_ with | 0 => .slice (some ⟨gr, 0, none⟩) (n + 2) cr | 1 => lv | 2 => .int .i64 ((n : Nat) : Int) | 3 => .slice (some ⟨gr, 0, none⟩) n cr | 4 => .slice (some ⟨gr, 0, none⟩) (n + 2) cr | 5 => .slice (some ⟨gr, 0, none⟩) n cr | 6 => .slice (some ⟨gr, 0, none⟩) (n + 2) cr | _ => undef) () A.1 (by kernel_rfl) (by decide) (by decide) ⟨BB, Fv8⟩ ?_ ?_
  · intro i_ hi_ s a X hf hv hn hS
    match i_, hi_ with
    | 0, _ => exact stepV rfl rfl (execMvB rfl ((hn 6 (by omega) _ rfl _ rfl).trans t3)) ⟨s, ⟨_, rfl, rfl⟩, hS, fun _ _ => rfl⟩
    | 1, _ => exact stepV rfl rfl (execMvB rfl ((hf 0 (by decide)).trans t0)) ⟨s, ⟨_, rfl, rfl⟩, hS, fun _ _ => rfl⟩
    | 2, _ => exact stepV rfl rfl (execLenI (len := n) rfl (hv 1 (by omega) _ rfl _ rfl) ((FI.on hS.1)).shp) ⟨s, ⟨_, rfl, rfl⟩, hS, fun _ _ => rfl⟩
    | 3, _ => exact stepV rfl rfl (By8.execSlH rfl (hv 0 (by omega) _ rfl _ rfl) (hv 2 (by omega) _ rfl _ rfl) (sl_hI gr _ cr n (by omega) X)) ⟨s, ⟨_, rfl, rfl⟩, hS, fun _ _ => rfl⟩
    | 4, _ => exact stepV rfl rfl (execMvB rfl ((hn 6 (by omega) _ rfl _ rfl).trans t3)) ⟨s, ⟨_, rfl, rfl⟩, hS, fun _ _ => rfl⟩
    | 5, _ => exact stepV rfl rfl (execAsgB rfl (hv 3 (by omega) _ rfl _ rfl)) ⟨s, ⟨_, rfl, rfl⟩, hS, fun _ _ => rfl⟩
    | 6, _ => exact stepV rfl rfl (execAsgB rfl (hv 4 (by omega) _ rfl _ rfl)) ⟨s, ⟨_, rfl, rfl⟩, hS, fun _ _ => rfl⟩
    | k_ + 7, h_ => exact absurd h_ (by simp)
  rintro _ a X2 h1 h2 h3 h4 hS
  clear BB
  clear Fv8
  replace hS : Below V.heap.size V X2 ∧ (X2.ownsRow V.heap.size 3 1 (.slice (some ⟨gr, 0, none⟩) (n + 2) cr) (n + 2) (intsL (n + 2) (catI n f (fun j => if j = 0 then -77 else -78)))) := hS
  obtain ⟨BB, Fv8⟩ := hS
  have t2 : a.eval (.tmp 2) = .slice (some ⟨gr, 0, none⟩) n cr := h4 5 _ rfl _ rfl
  replace t3 : a.eval (.tmp 3) = .slice (some ⟨gr, 0, none⟩) (n + 2) cr := h4 6 _ rfl _ rfl
  replace A := (⟨h1, h2.trans A.2⟩ : a.tmps.size = 14 ∧ a.defers = [])
  clear h1 h2 h3 h4
  clear t0
  refine wp_ret ?_
  refine bodyPost_ret (results_tmp2 rfl _ _ _) A.2 ⟨gr, cr, ?_, Fv8, BB⟩
  show Ending.returned (.tuple #[a.eval (.tmp 2), a.eval (.tmp 3)]) = _
  rw [t2, t3]
set_option maxRecDepth 100000 in
set_option maxHeartbeats 4000000 in
/-- The law's whole, where all is as it was lent. -/
theorem whole_any (f q : Nat → Int) (n gr cr : Nat) (lv : Value) (V : World) (hv : SliceI V lv n f) (hr : SliceI V (.slice (some ⟨gr, 0, none⟩) (n + 2) cr) (n + 2) q) (hq : ∀ j, j < n → q j = f j) (h77 : q n = -77) (h78 : q (n + 1) = -78) (hn17 : n ≤ 17592186044000) :
    Calls Try.prog 21 #[.slice (some ⟨gr, 0, none⟩) (n + 2) cr, lv] V fun e w' => e = .returned (.bool true) ∧ Below V.heap.size V w' := by
  have FI := hv
  have FR := hr
  have hcr : n + 2 ≤ cr := by
    obtain ⟨⟨a_, c_, e_, h1, _⟩, _⟩ := hr
    injection e_ with _ _ e3
    omega
  obtain ⟨b_, o_, e_, hb_, hc_⟩ : ∃ b off, (some ⟨gr, 0, none⟩ : Option Addr) = some ⟨b, off, none⟩ ∧ b < V.heap.size ∧ ∀ j, j < n + 2 → V.cell? ⟨b, off + j, none⟩ = some (.int .i64 (q j)) := by
    obtain ⟨⟨a_, c_, e_, h1, _, h3⟩, _⟩ := hr
    injection e_ with e1 _ _
    subst e1
    exact h3 (by omega)
  injection e_ with e_
  injection e_ with e1 e2 _
  subst e1
  subst e2
  have c77 : ∀ X, Below V.heap.size V X → X.cell? ⟨gr, 0 + n, none⟩ = some (.int .i64 (-77)) := fun X hX => by rw [cell_below hX hb_, hc_ n (by omega), h77]
  have c78 : ∀ X, Below V.heap.size V X → X.cell? ⟨gr, 0 + (n + 1), none⟩ = some (.int .i64 (-78)) := fun X hX => by rw [cell_below hX hb_, hc_ (n + 1) (by omega), h78]
  have hpre : SliceI V (.slice (some ⟨gr, 0, none⟩) n cr) n f := by
    obtain ⟨⟨a_, c_, e_, h1, h2, h3⟩, h4⟩ := hr
    injection e_ with e1 _ e3
    subst e1
    subst e3
    refine ⟨⟨_, _, rfl, by omega, h2, fun _ => ⟨gr, 0, rfl, hb_, fun j hj => by rw [hc_ j (by omega), hq j hj]⟩⟩, hv.fits⟩
  have hsm : ∀ X, Below V.heap.size V X → Calls Try.prog 14 #[.slice (some ⟨gr, 0, none⟩) n cr, lv] X fun e w' => e = .returned (.bool true) ∧ Below X.heap.size X w' := fun X hX => by
    have h_ := same_any f f n n _ _ X (hpre.on hX) (FI.on hX) (by omega)
    rw [eqL_refl, decide_eq_true rfl] at h_
    exact h_
  clear hb_ hc_
  go_enter Try.func21, Try.ntmps21
  refine wp_seq ?_
  refine wp_region_sqK 28 [(0, 4)] (fun i_ => match i_ with | 0 => .bool false | _ => undef) rfl (by kernel_rfl) (by decide) (by decide) ?_ ?_
  · intro i_ hi_ a hf hv hn
    match i_, hi_ with
    | 0, _ => exact stepV rfl rfl (execAsgB rfl rfl) ⟨⟨_, rfl, rfl⟩, rfl⟩
    | k_ + 1, h_ => exact absurd h_ (by simp)
  intro a h1 h2 h3 h4
  have t0 : a.eval (.tmp 0) = .slice (some ⟨gr, 0, none⟩) (n + 2) cr := (h3 0 (by decide)).trans rfl
  have t1 : a.eval (.tmp 1) = lv := (h3 1 (by decide)).trans rfl
  have A : a.tmps.size = 28 ∧ a.defers = [] := ⟨h1, h2⟩
  have BW : Below V.heap.size V V := Below.refl _ _
  clear h1 h2 h3 h4
  have BB := BW
  refine wp_seq ?_
  refine wp_region_sq (σ := Unit) 28 [(0, 5), (1, 6), (2, 7), (3, 8), (4, 9), (5, 10), (6, 11), (7, 12), (8, 13), (9, 14), (10, 15), (11, 16), (12, 17), (13, 18), (14, 19), (15, 20), (16, 21), (17, 22), (18, 23), (19, 24), (20, 25), (21, 26), (22, 27), (23, 4)] (fun j_ s X => match j_ with | 0 => Below V.heap.size V X | 1 => Below V.heap.size V X | 2 => Below V.heap.size V X | 3 => Below V.heap.size V X | 4 => Below V.heap.size V X | 5 => Below V.heap.size V X | 6 => Below V.heap.size V X | 7 => Below V.heap.size V X | 8 => Below V.heap.size V X | 9 => Below V.heap.size V X | 10 => Below V.heap.size V X | 11 => Below V.heap.size V X | 12 => Below V.heap.size V X | 13 => Below V.heap.size V X | 14 => Below V.heap.size V X | 15 => Below V.heap.size V X | 16 => Below V.heap.size V X | 17 => Below V.heap.size V X | 18 => Below V.heap.size V X | 19 => Below V.heap.size V X | 20 => Below V.heap.size V X | 21 => Below V.heap.size V X | 22 => Below V.heap.size V X | 23 => Below V.heap.size V X | _ => Below V.heap.size V X) (fun s => fun i_ => match i_ with | 0 => .slice (some ⟨gr, 0, none⟩) (n + 2) cr | 1 => lv | 2 => .int .i64 ((n : Nat) : Int) | 3 => .slice (some ⟨gr, 0, none⟩) n cr | 4 => lv | 5 => .bool true | 6 => .bool true | 7 => .slice (some ⟨gr, 0, none⟩) (n + 2) cr | 8 => lv | 9 => .int .i64 ((n : Nat) : Int) | 10 => .pointer (some ⟨gr, 0 + n, none⟩) | 11 => .int .i64 (-77) | 12 => .bool true | 13 => .bool true | 14 => .bool true | 15 => .slice (some ⟨gr, 0, none⟩) (n + 2) cr | 16 => lv | 17 => .int .i64 ((n : Nat) : Int) | 18 => .int .i64 ((n + 1 : Nat) : Int) | 19 => .pointer (some ⟨gr, 0 + (n + 1), none⟩) | 20 => .int .i64 (-78) | 21 => .bool true | 22 => .bool true | 23 => .bool true | _ => undef) () A.1 (by kernel_rfl) (by decide) (by decide) (BB) ?_ ?_
  · intro i_ hi_ s a X hf hv hn hS
    match i_, hi_ with
    | 0, _ => exact stepV rfl rfl (execMvB rfl ((hf 0 (by decide)).trans t0)) ⟨s, ⟨_, rfl, rfl⟩, hS, fun _ _ => rfl⟩
    | 1, _ => exact stepV rfl rfl (execMvB rfl ((hf 1 (by decide)).trans t1)) ⟨s, ⟨_, rfl, rfl⟩, hS, fun _ _ => rfl⟩
    | 2, _ => exact stepV rfl rfl (execLenI (len := n) rfl (hv 1 (by omega) _ rfl _ rfl) ((FI.on hS)).shp) ⟨s, ⟨_, rfl, rfl⟩, hS, fun _ _ => rfl⟩
    | 3, _ => exact stepV rfl rfl (By8.execSlH rfl (hv 0 (by omega) _ rfl _ rfl) (hv 2 (by omega) _ rfl _ rfl) (sl_hI gr _ cr n (by omega) X)) ⟨s, ⟨_, rfl, rfl⟩, hS, fun _ _ => rfl⟩
    | 4, _ => exact stepV rfl rfl (execMvB rfl ((hf 1 (by decide)).trans t1)) ⟨s, ⟨_, rfl, rfl⟩, hS, fun _ _ => rfl⟩
    | 5, _ => exact stepC rfl rfl (execCall2 Try.func14 (by kernel_rfl) (by kernel_rfl) rfl (hv 3 (by omega) _ rfl _ rfl) (hv 4 (by omega) _ rfl _ rfl)) (hsm X hS) fun e w' hh => ⟨_, hh.1, s, ⟨_, rfl, rfl⟩, (hS).trans ((hh.2).mono (hS).size), fun _ _ => rfl⟩
    | 6, _ => exact stepV rfl rfl (execMvB rfl (hv 5 (by omega) _ rfl _ rfl)) ⟨s, ⟨_, rfl, rfl⟩, hS, fun _ _ => rfl⟩
    | 7, _ => exact stepV rfl (wantedOf rfl (yieldedAt rfl rfl (show a.eval (.tmp 11) = .bool true from (hv 6 (by omega) _ rfl _ rfl)))) (execMvB rfl ((hf 0 (by decide)).trans t0)) ⟨s, ⟨_, rfl, rfl⟩, hS, fun _ _ => rfl⟩
    | 8, _ => exact stepV rfl (wantedOf rfl (yieldedAt rfl rfl (show a.eval (.tmp 11) = .bool true from (hv 6 (by omega) _ rfl _ rfl)))) (execMvB rfl ((hf 1 (by decide)).trans t1)) ⟨s, ⟨_, rfl, rfl⟩, hS, fun _ _ => rfl⟩
    | 9, _ => exact stepV rfl (wantedOf rfl (yieldedAt rfl rfl (show a.eval (.tmp 11) = .bool true from (hv 6 (by omega) _ rfl _ rfl)))) (execLenI (len := n) rfl (hv 8 (by omega) _ rfl _ rfl) ((FI.on hS)).shp) ⟨s, ⟨_, rfl, rfl⟩, hS, fun _ _ => rfl⟩
    | 10, _ => exact stepV rfl (wantedOf rfl (yieldedAt rfl rfl (show a.eval (.tmp 11) = .bool true from (hv 6 (by omega) _ rfl _ rfl)))) (execIdxN (k := n) rfl (hv 7 (by omega) _ rfl _ rfl) (hv 9 (by omega) _ rfl _ rfl) (by omega)) ⟨s, ⟨_, rfl, rfl⟩, hS, fun _ _ => rfl⟩
    | 11, _ => exact stepV rfl (wantedOf rfl (yieldedAt rfl rfl (show a.eval (.tmp 11) = .bool true from (hv 6 (by omega) _ rfl _ rfl)))) (execLd3 rfl (hv 10 (by omega) _ rfl _ rfl) (c77 X hS)) ⟨s, ⟨_, rfl, rfl⟩, hS, fun _ _ => rfl⟩
    | 12, _ => exact stepV rfl (wantedOf rfl (yieldedAt rfl rfl (show a.eval (.tmp 11) = .bool true from (hv 6 (by omega) _ rfl _ rfl)))) (execEqCt (p := -77) (q := -77) rfl (hv 11 (by omega) _ rfl _ rfl) rfl) ⟨s, ⟨_, rfl, rfl⟩, hS, fun _ _ => rfl⟩
    | 13, _ => exact stepV rfl rfl (execPickT rfl (hv 6 (by omega) _ rfl _ rfl) (hv 12 (by omega) _ rfl _ rfl)) ⟨s, ⟨_, rfl, rfl⟩, hS, fun _ _ => rfl⟩
    | 14, _ => exact stepV rfl rfl (execMvB rfl (hv 13 (by omega) _ rfl _ rfl)) ⟨s, ⟨_, rfl, rfl⟩, hS, fun _ _ => rfl⟩
    | 15, _ => exact stepV rfl (wantedOf rfl (yieldedAt rfl rfl (show a.eval (.tmp 19) = .bool true from (hv 14 (by omega) _ rfl _ rfl)))) (execMvB rfl ((hf 0 (by decide)).trans t0)) ⟨s, ⟨_, rfl, rfl⟩, hS, fun _ _ => rfl⟩
    | 16, _ => exact stepV rfl (wantedOf rfl (yieldedAt rfl rfl (show a.eval (.tmp 19) = .bool true from (hv 14 (by omega) _ rfl _ rfl)))) (execMvB rfl ((hf 1 (by decide)).trans t1)) ⟨s, ⟨_, rfl, rfl⟩, hS, fun _ _ => rfl⟩
    | 17, _ => exact stepV rfl (wantedOf rfl (yieldedAt rfl rfl (show a.eval (.tmp 19) = .bool true from (hv 14 (by omega) _ rfl _ rfl)))) (execLenI (len := n) rfl (hv 16 (by omega) _ rfl _ rfl) ((FI.on hS)).shp) ⟨s, ⟨_, rfl, rfl⟩, hS, fun _ _ => rfl⟩
    | 18, _ => exact stepV rfl (wantedOf rfl (yieldedAt rfl rfl (show a.eval (.tmp 19) = .bool true from (hv 14 (by omega) _ rfl _ rfl)))) (execAd8 (p := n) (q := 1) rfl (hv 17 (by omega) _ rfl _ rfl) rfl (by omega)) ⟨s, ⟨_, rfl, rfl⟩, hS, fun _ _ => rfl⟩
    | 19, _ => exact stepV rfl (wantedOf rfl (yieldedAt rfl rfl (show a.eval (.tmp 19) = .bool true from (hv 14 (by omega) _ rfl _ rfl)))) (execIdxN (k := n + 1) rfl (hv 15 (by omega) _ rfl _ rfl) (hv 18 (by omega) _ rfl _ rfl) (by omega)) ⟨s, ⟨_, rfl, rfl⟩, hS, fun _ _ => rfl⟩
    | 20, _ => exact stepV rfl (wantedOf rfl (yieldedAt rfl rfl (show a.eval (.tmp 19) = .bool true from (hv 14 (by omega) _ rfl _ rfl)))) (execLd3 rfl (hv 19 (by omega) _ rfl _ rfl) (c78 X hS)) ⟨s, ⟨_, rfl, rfl⟩, hS, fun _ _ => rfl⟩
    | 21, _ => exact stepV rfl (wantedOf rfl (yieldedAt rfl rfl (show a.eval (.tmp 19) = .bool true from (hv 14 (by omega) _ rfl _ rfl)))) (execEqCt (p := -78) (q := -78) rfl (hv 20 (by omega) _ rfl _ rfl) rfl) ⟨s, ⟨_, rfl, rfl⟩, hS, fun _ _ => rfl⟩
    | 22, _ => exact stepV rfl rfl (execPickT rfl (hv 14 (by omega) _ rfl _ rfl) (hv 21 (by omega) _ rfl _ rfl)) ⟨s, ⟨_, rfl, rfl⟩, hS, fun _ _ => rfl⟩
    | 23, _ => exact stepV rfl rfl (execAsgB rfl (hv 22 (by omega) _ rfl _ rfl)) ⟨s, ⟨_, rfl, rfl⟩, hS, fun _ _ => rfl⟩
    | k_ + 24, h_ => exact absurd h_ (by simp)
  rintro _ a X1 h1 h2 h3 h4 hS
  clear BB
  replace hS : Below V.heap.size V X1 := hS
  have BB := hS
  clear hS
  have t4 : a.eval (.tmp 4) = .bool true := h4 23 _ rfl _ rfl
  replace A := (⟨h1, h2.trans A.2⟩ : a.tmps.size = 28 ∧ a.defers = [])
  clear h1 h2 h3 h4
  clear t0 t1
  refine wp_ret ?_
  repeat (first | refine ret_in ?_ | refine ret_then ?_)
  refine bodyPost_ret (results_tmp rfl _ _ _) A.2 ⟨?_, BB⟩
  show Ending.returned (a.eval (.tmp 4)) = _
  rw [t4]
end Go.Proofs.Ytdecmmcphcomhaa.Brd
