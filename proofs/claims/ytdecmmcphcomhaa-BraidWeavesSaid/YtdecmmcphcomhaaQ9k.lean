import Derived.Test.YtdecmmcphcomhaaQ9j
namespace Go.Proofs.Ytdecmmcphcomhaa.Brd
open Go.RowKit Gf8 Aes By8 Cel Cf Tap Drw Prm
/- Package braid as it landed: sum, areSizes, areFalling, slices.Clone, standsSoOften, areOffsets. Written by tools/mkQ9k.py. -/

section
variable {o : Oper} {a : Act} {w : World}
theorem execNilIt {x : Operand} {n c : Nat} (ho : o.op = .binOp .eql 23 x (.const (.slice none 0 0)) 23) (hx : a.eval x = .slice none n c) : (execOp a.eval o).run Try.prog w = .ok (.value (.bool true)) w := by
  have en := Go.Lib.run_eql_slice_nil (P := Try.prog) w 23 3 none n c 0 0 Try.underlying23
  have ec : a.eval (.const (.slice none 0 0)) = .slice none 0 0 := rfl
  unfold execOp
  simp only [ho, hx, ec]
  simp [go_sem, en]
theorem execNilIf {x : Operand} {ad : Addr} {n c : Nat} (ho : o.op = .binOp .eql 23 x (.const (.slice none 0 0)) 23) (hx : a.eval x = .slice (some ad) n c) : (execOp a.eval o).run Try.prog w = .ok (.value (.bool false)) w := by
  have en := Go.Lib.run_eql_slice_nil (P := Try.prog) w 23 3 (some ad) n c 0 0 Try.underlying23
  have ec : a.eval (.const (.slice none 0 0)) = .slice none 0 0 := rfl
  unfold execOp
  simp only [ho, hx, ec]
  simp [go_sem, en]
end
theorem cnt_le (C : Nat → Nat) (j : Nat) : ∀ k, cntC C j k ≤ k
  | 0 => Nat.le_refl _
  | k + 1 => by
    have := cnt_le C j k
    show cntC C j k + _ ≤ k + 1
    by_cases h : C k = j
    · rw [if_pos h]; omega
    · rw [if_neg h]; omega
theorem st_set {W : World} {B J i w gl cl : Nat} {v : Value} {f tm : Nat → Int} (h : W.ownsRow B 3 1 v J (intsL J (fun j => tm j - (cntC (gN f) j i : Int)))) (el : v = .slice (some ⟨gl, 0, none⟩) J cl) (hg : gN f i = w) :
    (W.setCell ⟨gl, 0 + w, none⟩ (.int .i64 (tm w - (cntC (gN f) w i : Int) - 1))).ownsRow B 3 1 v J (intsL J (fun j => tm j - (cntC (gN f) j (i + 1) : Int))) := by
  subst el
  have h1 := own_setF (k := w) (tm w - (cntC (gN f) w i : Int) - 1) h
  rw [intsL_congr (g := fun j => tm j - (cntC (gN f) j (i + 1) : Int)) (fun j hj => ?_)] at h1
  · exact h1
  · show (if j = w then tm w - (cntC (gN f) w i : Int) - 1 else tm j - (cntC (gN f) j i : Int)) = tm j - ((cntC (gN f) j i + (if gN f i = j then 1 else 0) : Nat) : Int)
    rw [hg]
    by_cases e : j = w
    · subst e
      rw [if_pos rfl, if_pos rfl]
      omega
    · rw [if_neg e, if_neg (fun q => e q.symm)]
      omega
set_option maxRecDepth 100000 in
set_option maxHeartbeats 4000000 in
/-- slices.Clone of a list of ints. -/
theorem pclone (f : Nat → Int) (n : Nat) (v : Value) (V : World) (hv : SliceI V v n f) (hn17 : n ≤ 17592186044416) :
    Calls Try.prog 41 #[v] V fun e w' => ∃ r, e = .returned r ∧ w'.ownsRow V.heap.size 3 1 r n (intsL n f) ∧ Below V.heap.size V w' := by
  obtain ⟨ia, ic, rfl, -, -, hsh⟩ := id hv.shape
  have FI := hv
  cases ia with
  | none =>
    obtain rfl : n = 0 := by
      by_cases h : 0 < n
      · obtain ⟨b, off, e, _⟩ := hsh h
        cases e
      · omega
    go_enter Try.func41, Try.ntmps41
    refine wp_seq ?_
    refine wp_region_sqK 8 [(0, 2)] (fun i_ => match i_ with | 0 => .slice none 0 0 | _ => undef) rfl (by kernel_rfl) (by decide) (by decide) ?_ ?_
    · intro i_ hi_ a hf hv hn
      match i_, hi_ with
      | 0, _ => exact stepV rfl rfl (execAsgB rfl rfl) ⟨⟨_, rfl, rfl⟩, rfl⟩
      | k_ + 1, h_ => exact absurd h_ (by simp)
    intro a h1 h2 h3 h4
    have t0 : a.eval (.tmp 0) = .slice none 0 ic := (h3 0 (by decide)).trans rfl
    have A : a.tmps.size = 8 ∧ a.defers = [] := ⟨h1, h2⟩
    have BW : Below V.heap.size V V := Below.refl _ _
    clear h1 h2 h3 h4
    have BB := BW
    refine wp_seq ?_
    refine wp_seq ?_
    refine wp_region_sq (σ := Unit) 8 [(0, 3), (1, 4)] (fun j_ s X => match j_ with | 0 => Below V.heap.size V X | 1 => Below V.heap.size V X | _ => Below V.heap.size V X) (fun s => fun i_ => match i_ with | 0 => .slice none 0 ic | 1 => .bool true | _ => undef) () A.1 (by kernel_rfl) (by decide) (by decide) (BB) ?_ ?_
    · intro i_ hi_ s a X hf hv hn hS
      match i_, hi_ with
      | 0, _ => exact stepV rfl rfl (execMvB rfl ((hf 0 (by decide)).trans t0)) ⟨s, ⟨_, rfl, rfl⟩, hS, fun _ _ => rfl⟩
      | 1, _ => exact stepV rfl rfl (execNilIt rfl (hv 0 (by omega) _ rfl _ rfl)) ⟨s, ⟨_, rfl, rfl⟩, hS, fun _ _ => rfl⟩
      | k_ + 2, h_ => exact absurd h_ (by simp)
    rintro _ a X1 h1 h2 h3 h4 hS
    clear BB
    replace hS : Below V.heap.size V X1 := hS
    have BB := hS
    clear hS
    replace t0 := (h3 0 (by decide)).trans t0
    have t4 : a.eval (.tmp 4) = .bool true := h4 1 _ rfl _ rfl
    replace A := (⟨h1, h2.trans A.2⟩ : a.tmps.size = 8 ∧ a.defers = [])
    clear h1 h2 h3 h4
    refine wp_cond_true t4 ?_
    refine wp_seq ?_
    refine wp_region_sq (σ := Unit) 8 [(0, 2)] (fun j_ s X => match j_ with | 0 => Below V.heap.size V X | _ => Below V.heap.size V X) (fun s => fun i_ => match i_ with | 0 => .slice none 0 0 | _ => undef) () A.1 (by kernel_rfl) (by decide) (by decide) (BB) ?_ ?_
    · intro i_ hi_ s a X hf hv hn hS
      match i_, hi_ with
      | 0, _ => exact stepV rfl rfl (execAsgB rfl rfl) ⟨s, ⟨_, rfl, rfl⟩, hS, fun _ _ => rfl⟩
      | k_ + 1, h_ => exact absurd h_ (by simp)
    rintro _ a X2 h1 h2 h3 h4 hS
    clear BB
    replace hS : Below V.heap.size V X2 := hS
    have BB := hS
    clear hS
    have t2 : a.eval (.tmp 2) = .slice none 0 0 := h4 0 _ rfl _ rfl
    replace A := (⟨h1, h2.trans A.2⟩ : a.tmps.size = 8 ∧ a.defers = [])
    clear h1 h2 h3 h4
    clear t0
    refine wp_ret ?_
    repeat (first | refine ret_in ?_ | refine ret_then ?_)
    refine bodyPost_ret (results_tmp rfl _ _ _) A.2 ⟨_, ?_, World.ownsRow_nil _ _ _ _, BB⟩
    show Ending.returned (a.eval (.tmp 2)) = _
    rw [t2]
  | some ad =>
    go_enter Try.func41, Try.ntmps41
    refine wp_seq ?_
    refine wp_region_sqK 8 [(0, 2)] (fun i_ => match i_ with | 0 => .slice none 0 0 | _ => undef) rfl (by kernel_rfl) (by decide) (by decide) ?_ ?_
    · intro i_ hi_ a hf hv hn
      match i_, hi_ with
      | 0, _ => exact stepV rfl rfl (execAsgB rfl rfl) ⟨⟨_, rfl, rfl⟩, rfl⟩
      | k_ + 1, h_ => exact absurd h_ (by simp)
    intro a h1 h2 h3 h4
    have t0 : a.eval (.tmp 0) = .slice (some ad) n ic := (h3 0 (by decide)).trans rfl
    have A : a.tmps.size = 8 ∧ a.defers = [] := ⟨h1, h2⟩
    have BW : Below V.heap.size V V := Below.refl _ _
    clear h1 h2 h3 h4
    have BB := BW
    refine wp_seq ?_
    refine wp_seq ?_
    refine wp_region_sq (σ := Unit) 8 [(0, 3), (1, 4)] (fun j_ s X => match j_ with | 0 => Below V.heap.size V X | 1 => Below V.heap.size V X | _ => Below V.heap.size V X) (fun s => fun i_ => match i_ with | 0 => .slice (some ad) n ic | 1 => .bool false | _ => undef) () A.1 (by kernel_rfl) (by decide) (by decide) (BB) ?_ ?_
    · intro i_ hi_ s a X hf hv hn hS
      match i_, hi_ with
      | 0, _ => exact stepV rfl rfl (execMvB rfl ((hf 0 (by decide)).trans t0)) ⟨s, ⟨_, rfl, rfl⟩, hS, fun _ _ => rfl⟩
      | 1, _ => exact stepV rfl rfl (execNilIf rfl (hv 0 (by omega) _ rfl _ rfl)) ⟨s, ⟨_, rfl, rfl⟩, hS, fun _ _ => rfl⟩
      | k_ + 2, h_ => exact absurd h_ (by simp)
    rintro _ a X1 h1 h2 h3 h4 hS
    clear BB
    replace hS : Below V.heap.size V X1 := hS
    have BB := hS
    clear hS
    replace t0 := (h3 0 (by decide)).trans t0
    have t4 : a.eval (.tmp 4) = .bool false := h4 1 _ rfl _ rfl
    replace A := (⟨h1, h2.trans A.2⟩ : a.tmps.size = 8 ∧ a.defers = [])
    clear h1 h2 h3 h4
    refine wp_cond_false t4 ?_
    refine wp_skip ?_
    clear t4
    refine wp_seq ?_
    refine wp_region_sq (σ := Nat × Value) 8 [(0, 5), (1, 6), (2, 7), (3, 2)] (fun j_ s X => match j_ with | 0 => Below V.heap.size V X | 1 => Below V.heap.size V X ∧ (X.ownsRow V.heap.size 3 1 (.slice (some ⟨s.1, 0, none⟩) 0 0) (0) (intsL (0) (f))) | 2 => Below V.heap.size V X ∧ (X.ownsRow V.heap.size 3 1 (.slice (some ⟨s.1, 0, none⟩) 0 0) (0) (intsL (0) (f))) | 3 => Below V.heap.size V X ∧ (X.ownsRow V.heap.size 3 1 s.2 (n) (intsL (n) (f))) | _ => Below V.heap.size V X ∧ (X.ownsRow V.heap.size 3 1 s.2 (n) (intsL (n) (f)))) (fun s => fun i_ => match i_ with | 0 => .slice (some ⟨s.1, 0, none⟩) 0 0 | 1 => .slice (some ad) n ic | 2 => s.2 | 3 => s.2 | _ => undef) (0, undef) A.1 (by kernel_rfl) (by decide) (by decide) (BB) ?_ ?_
    · intro i_ hi_ s a X hf hv hn hS
      match i_, hi_ with
      | 0, _ =>
        refine stepV rfl rfl (execBs0I rfl) ⟨(X.heap.size, s.2), ⟨_, rfl, rfl⟩, ⟨(hS).trans (((belNew X _)).mono (hS).size), ownD_base (own_noneI X _) (hS).size⟩, fun i hi => ?_⟩
        omega
      | 1, _ => exact stepV rfl rfl (execMvB rfl ((hf 0 (by decide)).trans t0)) ⟨s, ⟨_, rfl, rfl⟩, hS, fun _ _ => rfl⟩
      | 2, _ =>
        refine stepAppIs (f := f) (g := f) rfl rfl rfl (hv 0 (by omega) _ rfl _ rfl) (hv 1 (by omega) _ rfl _ rfl) hS.2 (FI.on hS.1) (fun l c e => by cases e) (by omega) (hS.1).size fun v' W' own' gr => ⟨(s.1, v'), ⟨_, rfl, rfl⟩, ⟨(hS.1).grown gr (hS.1).size (fun k hk => (hS.2.lt k hk).1), own_cat0 own'⟩, fun i hi => ?_⟩
        match i, hi with
        | 0, _ => rfl
        | 1, _ => rfl
        | n_ + 2, h_ => omega
      | 3, _ => exact stepV rfl rfl (execAsgB rfl (hv 2 (by omega) _ rfl _ rfl)) ⟨s, ⟨_, rfl, rfl⟩, hS, fun _ _ => rfl⟩
      | k_ + 4, h_ => exact absurd h_ (by simp)
    rintro ⟨g5, v7⟩ a X3 h1 h2 h3 h4 hS
    clear BB
    replace hS : Below V.heap.size V X3 ∧ (X3.ownsRow V.heap.size 3 1 v7 (n) (intsL (n) (f))) := hS
    obtain ⟨BB, Fv7⟩ := hS
    have t2 : a.eval (.tmp 2) = v7 := h4 3 _ rfl _ rfl
    replace A := (⟨h1, h2.trans A.2⟩ : a.tmps.size = 8 ∧ a.defers = [])
    clear h1 h2 h3 h4
    clear t0
    refine wp_ret ?_
    refine bodyPost_ret (results_tmp rfl _ _ _) A.2 ⟨v7, ?_, Fv7, BB⟩
    show Ending.returned (a.eval (.tmp 2)) = _
    rw [t2]
set_option maxRecDepth 100000 in
set_option maxHeartbeats 4000000 in
/-- The program's standsSoOften. -/
theorem pstands (f tm : Nat → Int) (n J : Nat) (v u0 : Value) (V : World) (hv : SliceI V v n f) (hn17 : n ≤ 17592186044416) (hv2 : SliceI V u0 J tm) (hJ17 : J ≤ 17592186044416) (htm : ∀ j, j < J → 0 ≤ tm j) :
    Calls Try.prog 36 #[v, u0] V fun e w' => e = .returned (.bool (stQ f n tm J)) ∧ Below V.heap.size V w' := by
  obtain ⟨ia, ic, rfl, -, -, hsh⟩ := id hv.shape
  have FI := hv
  have FJ := hv2
  go_enter Try.func36, Try.ntmps36
  refine wp_seq ?_
  refine wp_region_sqK 42 [(0, 4)] (fun i_ => match i_ with | 0 => .bool false | _ => undef) rfl (by kernel_rfl) (by decide) (by decide) ?_ ?_
  · intro i_ hi_ a hf hv hn
    match i_, hi_ with
    | 0, _ => exact stepV rfl rfl (execAsgB rfl rfl) ⟨⟨_, rfl, rfl⟩, rfl⟩
    | k_ + 1, h_ => exact absurd h_ (by simp)
  intro a h1 h2 h3 h4
  have t0 : a.eval (.tmp 0) = .slice ia n ic := (h3 0 (by decide)).trans rfl
  have t1 : a.eval (.tmp 1) = u0 := (h3 1 (by decide)).trans rfl
  have A : a.tmps.size = 42 ∧ a.defers = [] := ⟨h1, h2⟩
  have BW : Below V.heap.size V V := Below.refl _ _
  clear h1 h2 h3 h4
  have BB := BW
  refine wp_seq ?_
  refine wp_region_sq (σ := Value) 42 [(0, 10), (1, 11), (2, 5)] (fun j_ s X => match j_ with | 0 => Below V.heap.size V X | 1 => Below V.heap.size V X | 2 => Below V.heap.size V X ∧ (X.ownsRow V.heap.size 3 1 s (J) (intsL (J) (tm))) | _ => Below V.heap.size V X ∧ (X.ownsRow V.heap.size 3 1 s (J) (intsL (J) (tm)))) (fun s => fun i_ => match i_ with | 0 => u0 | 1 => s | 2 => s | _ => undef) undef A.1 (by kernel_rfl) (by decide) (by decide) (BB) ?_ ?_
  · intro i_ hi_ s a X hf hv hn hS
    match i_, hi_ with
    | 0, _ => exact stepV rfl rfl (execMvB rfl ((hf 1 (by decide)).trans t1)) ⟨s, ⟨_, rfl, rfl⟩, hS, fun _ _ => rfl⟩
    | 1, _ =>
      refine stepC rfl rfl (execCall1 Try.func41 (by kernel_rfl) (by kernel_rfl) rfl (hv 0 (by omega) _ rfl _ rfl)) (pclone tm J _ X (FJ.on hS) hJ17) fun e w' hh => ?_
      obtain ⟨r_, he, hk, hb⟩ := hh
      refine ⟨_, he, r_, ⟨_, rfl, rfl⟩, ⟨(hS).trans ((hb).mono (hS).size), ownD_base hk (hS).size⟩, fun i hi => ?_⟩
      match i, hi with
      | 0, _ => rfl
      | n_ + 1, h_ => omega
    | 2, _ => exact stepV rfl rfl (execAsgB rfl (hv 1 (by omega) _ rfl _ rfl)) ⟨s, ⟨_, rfl, rfl⟩, hS, fun _ _ => rfl⟩
    | k_ + 3, h_ => exact absurd h_ (by simp)
  rintro v11 a X1 h1 h2 h3 h4 hS
  clear BB
  replace hS : Below V.heap.size V X1 ∧ (X1.ownsRow V.heap.size 3 1 v11 (J) (intsL (J) (tm))) := hS
  obtain ⟨BB, FO⟩ := hS
  replace t0 := (h3 0 (by decide)).trans t0
  have t5 : a.eval (.tmp 5) = v11 := h4 2 _ rfl _ rfl
  replace A := (⟨h1, h2.trans A.2⟩ : a.tmps.size = 42 ∧ a.defers = [])
  clear h1 h2 h3 h4
  clear t1
  rw [intsL_congr (g := fun j => tm j - (cntC (gN f) j 0 : Int)) (fun j hj => (Int.sub_zero _).symm)] at FO
  refine wp_seq ?_
  refine wp_seq ?_
  refine wp_region_sq (σ := Unit) 42 [(0, 12), (1, 13), (2, 14)] (fun j_ s X => match j_ with | 0 => Below V.heap.size V X ∧ (X.ownsRow V.heap.size 3 1 v11 (J) (intsL (J) (fun j => tm j - (cntC (gN f) j 0 : Int)))) | 1 => Below V.heap.size V X ∧ (X.ownsRow V.heap.size 3 1 v11 (J) (intsL (J) (fun j => tm j - (cntC (gN f) j 0 : Int)))) | 2 => Below V.heap.size V X ∧ (X.ownsRow V.heap.size 3 1 v11 (J) (intsL (J) (fun j => tm j - (cntC (gN f) j 0 : Int)))) | _ => Below V.heap.size V X ∧ (X.ownsRow V.heap.size 3 1 v11 (J) (intsL (J) (fun j => tm j - (cntC (gN f) j 0 : Int))))) (fun s => fun i_ => match i_ with | 0 => .slice ia n ic | 1 => .int .i64 ((n : Nat) : Int) | 2 => .int .i64 ((0 : Nat) : Int) | _ => undef) () A.1 (by kernel_rfl) (by decide) (by decide) ⟨BB, FO⟩ ?_ ?_
  · intro i_ hi_ s a X hf hv hn hS
    match i_, hi_ with
    | 0, _ => exact stepV rfl rfl (execMvB rfl ((hf 0 (by decide)).trans t0)) ⟨s, ⟨_, rfl, rfl⟩, hS, fun _ _ => rfl⟩
    | 1, _ => exact stepV rfl rfl (execLenI (len := n) rfl (hv 0 (by omega) _ rfl _ rfl) ((FI.on hS.1)).shp) ⟨s, ⟨_, rfl, rfl⟩, hS, fun _ _ => rfl⟩
    | 2, _ => exact stepV rfl rfl (execMvB rfl rfl) ⟨s, ⟨_, rfl, rfl⟩, hS, fun _ _ => rfl⟩
    | k_ + 3, h_ => exact absurd h_ (by simp)
  rintro _ a X2 h1 h2 h3 h4 hS
  clear BB
  clear FO
  replace hS : Below V.heap.size V X2 ∧ (X2.ownsRow V.heap.size 3 1 v11 (J) (intsL (J) (fun j => tm j - (cntC (gN f) j 0 : Int)))) := hS
  obtain ⟨BB, FO⟩ := hS
  replace t5 := (h3 5 (by decide)).trans t5
  have t12 : a.eval (.tmp 12) = .slice ia n ic := h4 0 _ rfl _ rfl
  have t13 : a.eval (.tmp 13) = .int .i64 ((n : Nat) : Int) := h4 1 _ rfl _ rfl
  have t14 : a.eval (.tmp 14) = .int .i64 ((0 : Nat) : Int) := h4 2 _ rfl _ rfl
  replace A := (⟨h1, h2.trans A.2⟩ : a.tmps.size = 42 ∧ a.defers = [])
  clear h1 h2 h3 h4
  clear t0
  refine wp_block ?_
  refine wp_loop (fun a W => ∃ (i : Nat), i ≤ n ∧ (allB (inB f J) i = true) ∧ (a.tmps.size = 42 ∧ a.defers = []) ∧ a.eval (.tmp 5) = v11 ∧ a.eval (.tmp 12) = .slice ia n ic ∧ a.eval (.tmp 13) = .int .i64 ((n : Nat) : Int) ∧ a.eval (.tmp 14) = .int .i64 ((i : Nat) : Int) ∧ Below V.heap.size V W ∧ (W.ownsRow V.heap.size 3 1 v11 (J) (intsL (J) (fun j => tm j - (cntC (gN f) j i : Int))))) (fun a _ => n - (intOf (a.eval (.tmp 14))).toNat) ⟨0, Nat.zero_le _, rfl, A, t5, t12, t13, t14, BB, FO⟩ ?_
  clear A t5 t12 t13 t14 BB FO a
  rintro a XL3 ⟨i, hi, hok, A, t5, t12, t13, t14, BB, FO⟩
  have esi := t14
  refine wp_seq ?_
  refine wp_region_sq (σ := Unit) 42 [(0, 15)] (fun j_ s X => match j_ with | 0 => Below V.heap.size V X ∧ (X.ownsRow V.heap.size 3 1 v11 (J) (intsL (J) (fun j => tm j - (cntC (gN f) j i : Int)))) | _ => Below V.heap.size V X ∧ (X.ownsRow V.heap.size 3 1 v11 (J) (intsL (J) (fun j => tm j - (cntC (gN f) j i : Int))))) (fun s => fun i_ => match i_ with | 0 => .bool (decide (i < n)) | _ => undef) () A.1 (by kernel_rfl) (by decide) (by decide) ⟨BB, FO⟩ ?_ ?_
  · intro i_ hi_ s a X hf hv hn hS
    match i_, hi_ with
    | 0, _ => exact stepV rfl rfl (execLtW (p := i) (q := n) rfl ((hf 14 (by decide)).trans t14) ((hf 13 (by decide)).trans t13)) ⟨s, ⟨_, rfl, rfl⟩, hS, fun _ _ => rfl⟩
    | k_ + 1, h_ => exact absurd h_ (by simp)
  rintro _ a X3 h1 h2 h3 h4 hS
  clear BB
  clear FO
  replace hS : Below V.heap.size V X3 ∧ (X3.ownsRow V.heap.size 3 1 v11 (J) (intsL (J) (fun j => tm j - (cntC (gN f) j i : Int)))) := hS
  obtain ⟨BB, FO⟩ := hS
  replace t5 := (h3 5 (by decide)).trans t5
  replace t12 := (h3 12 (by decide)).trans t12
  replace t13 := (h3 13 (by decide)).trans t13
  replace t14 := (h3 14 (by decide)).trans t14
  have t15 : a.eval (.tmp 15) = .bool (decide (i < n)) := h4 0 _ rfl _ rfl
  replace A := (⟨h1, h2.trans A.2⟩ : a.tmps.size = 42 ∧ a.defers = [])
  clear h1 h2 h3 h4
  refine wp_seq ?_
  by_cases lti : i < n
  · rw [decide_eq_true lti] at t15
    refine wp_cond_true t15 ?_
    refine wp_skip ?_
    clear t15
    refine wp_seq ?_
    refine wp_block ?_
    obtain ⟨ib, io, rfl, hib, hcell⟩ := hsh (by omega)
    have cI : ∀ k, k < n → ∀ X, Below V.heap.size V X → X.cell? ⟨ib, io + k, none⟩ = some (.int .i64 (f k)) := fun k hk X hX => by rw [cell_below hX hib]; exact hcell k hk
    by_cases h1 : f i < 0
    · refine wp_seq ?_
      refine wp_region_sq (σ := Unit) 42 [(0, 16), (1, 17), (2, 7)] (fun j_ s X => match j_ with | 0 => Below V.heap.size V X ∧ (X.ownsRow V.heap.size 3 1 v11 (J) (intsL (J) (fun j => tm j - (cntC (gN f) j i : Int)))) | 1 => Below V.heap.size V X ∧ (X.ownsRow V.heap.size 3 1 v11 (J) (intsL (J) (fun j => tm j - (cntC (gN f) j i : Int)))) | 2 => Below V.heap.size V X ∧ (X.ownsRow V.heap.size 3 1 v11 (J) (intsL (J) (fun j => tm j - (cntC (gN f) j i : Int)))) | _ => Below V.heap.size V X ∧ (X.ownsRow V.heap.size 3 1 v11 (J) (intsL (J) (fun j => tm j - (cntC (gN f) j i : Int))))) (fun s => fun i_ => match i_ with | 0 => .pointer (some ⟨ib, io + i, none⟩) | 1 => .int .i64 (f i) | 2 => .int .i64 (f i) | _ => undef) () A.1 (by kernel_rfl) (by decide) (by decide) ⟨BB, FO⟩ ?_ ?_
      · intro i_ hi_ s a X hf hv hn hS
        match i_, hi_ with
        | 0, _ => exact stepV rfl rfl (execIdxN (k := i) rfl ((hf 12 (by decide)).trans t12) ((hf 14 (by decide)).trans t14) lti) ⟨s, ⟨_, rfl, rfl⟩, hS, fun _ _ => rfl⟩
        | 1, _ => exact stepV rfl rfl (execLd3 rfl (hv 0 (by omega) _ rfl _ rfl) (cI i lti X hS.1)) ⟨s, ⟨_, rfl, rfl⟩, hS, fun _ _ => rfl⟩
        | 2, _ => exact stepV rfl rfl (execAsgB rfl (hv 1 (by omega) _ rfl _ rfl)) ⟨s, ⟨_, rfl, rfl⟩, hS, fun _ _ => rfl⟩
        | k_ + 3, h_ => exact absurd h_ (by simp)
      rintro _ a X4 h1 h2 h3 h4 hS
      clear BB
      clear FO
      replace hS : Below V.heap.size V X4 ∧ (X4.ownsRow V.heap.size 3 1 v11 (J) (intsL (J) (fun j => tm j - (cntC (gN f) j i : Int)))) := hS
      obtain ⟨BB, FO⟩ := hS
      replace t5 := (h3 5 (by decide)).trans t5
      replace t12 := (h3 12 (by decide)).trans t12
      replace t13 := (h3 13 (by decide)).trans t13
      replace t14 := (h3 14 (by decide)).trans t14
      have t7 : a.eval (.tmp 7) = .int .i64 (f i) := h4 2 _ rfl _ rfl
      replace A := (⟨h1, h2.trans A.2⟩ : a.tmps.size = 42 ∧ a.defers = [])
      clear h1 h2 h3 h4
      refine wp_seq ?_
      refine wp_seq ?_
      refine wp_region_sq (σ := Unit) 42 [(0, 18), (1, 19), (2, 20), (3, 21), (4, 22), (5, 23), (6, 24), (7, 25)] (fun j_ s X => match j_ with | 0 => Below V.heap.size V X ∧ (X.ownsRow V.heap.size 3 1 v11 (J) (intsL (J) (fun j => tm j - (cntC (gN f) j i : Int)))) | 1 => Below V.heap.size V X ∧ (X.ownsRow V.heap.size 3 1 v11 (J) (intsL (J) (fun j => tm j - (cntC (gN f) j i : Int)))) | 2 => Below V.heap.size V X ∧ (X.ownsRow V.heap.size 3 1 v11 (J) (intsL (J) (fun j => tm j - (cntC (gN f) j i : Int)))) | 3 => Below V.heap.size V X ∧ (X.ownsRow V.heap.size 3 1 v11 (J) (intsL (J) (fun j => tm j - (cntC (gN f) j i : Int)))) | 4 => Below V.heap.size V X ∧ (X.ownsRow V.heap.size 3 1 v11 (J) (intsL (J) (fun j => tm j - (cntC (gN f) j i : Int)))) | 5 => Below V.heap.size V X ∧ (X.ownsRow V.heap.size 3 1 v11 (J) (intsL (J) (fun j => tm j - (cntC (gN f) j i : Int)))) | 6 => Below V.heap.size V X ∧ (X.ownsRow V.heap.size 3 1 v11 (J) (intsL (J) (fun j => tm j - (cntC (gN f) j i : Int)))) | 7 => Below V.heap.size V X ∧ (X.ownsRow V.heap.size 3 1 v11 (J) (intsL (J) (fun j => tm j - (cntC (gN f) j i : Int)))) | _ => Below V.heap.size V X ∧ (X.ownsRow V.heap.size 3 1 v11 (J) (intsL (J) (fun j => tm j - (cntC (gN f) j i : Int))))) (fun s => fun i_ => match i_ with | 0 => .int .i64 (f i) | 1 => .bool true | 2 => .bool true | 3 => undef | 4 => undef | 5 => undef | 6 => undef | 7 => .bool true | _ => undef) () A.1 (by kernel_rfl) (by decide) (by decide) ⟨BB, FO⟩ ?_ ?_
      · intro i_ hi_ s a X hf hv hn hS
        match i_, hi_ with
        | 0, _ => exact stepV rfl rfl (execMvB rfl ((hf 7 (by decide)).trans t7)) ⟨s, ⟨_, rfl, rfl⟩, hS, fun _ _ => rfl⟩
        | 1, _ => exact stepV rfl rfl (execLtCt (p := (f i)) (q := 0) rfl (hv 0 (by omega) _ rfl _ rfl) (by exact h1)) ⟨s, ⟨_, rfl, rfl⟩, hS, fun _ _ => rfl⟩
        | 2, _ => exact stepV rfl rfl (execMvB rfl (hv 1 (by omega) _ rfl _ rfl)) ⟨s, ⟨_, rfl, rfl⟩, hS, fun _ _ => rfl⟩
        | 3, _ => exact stepU rfl (unwantedOf rfl (yieldedAt rfl rfl (show a.eval (.tmp 20) = .bool (!false) from (hv 2 (by omega) _ rfl _ rfl)))) ⟨s, ⟨_, rfl, rfl⟩, hS, fun _ _ => rfl⟩
        | 4, _ => exact stepU rfl (unwantedOf rfl (yieldedAt rfl rfl (show a.eval (.tmp 20) = .bool (!false) from (hv 2 (by omega) _ rfl _ rfl)))) ⟨s, ⟨_, rfl, rfl⟩, hS, fun _ _ => rfl⟩
        | 5, _ => exact stepU rfl (unwantedOf rfl (yieldedAt rfl rfl (show a.eval (.tmp 20) = .bool (!false) from (hv 2 (by omega) _ rfl _ rfl)))) ⟨s, ⟨_, rfl, rfl⟩, hS, fun _ _ => rfl⟩
        | 6, _ => exact stepU rfl (unwantedOf rfl (yieldedAt rfl rfl (show a.eval (.tmp 20) = .bool (!false) from (hv 2 (by omega) _ rfl _ rfl)))) ⟨s, ⟨_, rfl, rfl⟩, hS, fun _ _ => rfl⟩
        | 7, _ => exact stepV rfl rfl (execPickT rfl (hv 2 (by omega) _ rfl _ rfl) rfl) ⟨s, ⟨_, rfl, rfl⟩, hS, fun _ _ => rfl⟩
        | k_ + 8, h_ => exact absurd h_ (by simp)
      rintro _ a X5 h1 h2 h3 h4 hS
      clear BB
      clear FO
      replace hS : Below V.heap.size V X5 ∧ (X5.ownsRow V.heap.size 3 1 v11 (J) (intsL (J) (fun j => tm j - (cntC (gN f) j i : Int)))) := hS
      obtain ⟨BB, FO⟩ := hS
      replace t5 := (h3 5 (by decide)).trans t5
      replace t12 := (h3 12 (by decide)).trans t12
      replace t13 := (h3 13 (by decide)).trans t13
      replace t14 := (h3 14 (by decide)).trans t14
      replace t7 := (h3 7 (by decide)).trans t7
      have t25 : a.eval (.tmp 25) = .bool true := h4 7 _ rfl _ rfl
      replace A := (⟨h1, h2.trans A.2⟩ : a.tmps.size = 42 ∧ a.defers = [])
      clear h1 h2 h3 h4
      refine wp_cond_true t25 ?_
      refine wp_seq ?_
      clear FO
      refine wp_region_sq (σ := Unit) 42 [(0, 4)] (fun j_ s X => match j_ with | 0 => Below V.heap.size V X | _ => Below V.heap.size V X) (fun s => fun i_ => match i_ with | 0 => .bool false | _ => undef) () A.1 (by kernel_rfl) (by decide) (by decide) (BB) ?_ ?_
      · intro i_ hi_ s a X hf hv hn hS
        match i_, hi_ with
        | 0, _ => exact stepV rfl rfl (execAsgB rfl rfl) ⟨s, ⟨_, rfl, rfl⟩, hS, fun _ _ => rfl⟩
        | k_ + 1, h_ => exact absurd h_ (by simp)
      rintro _ a X6 h1 h2 h3 h4 hS
      clear BB
      replace hS : Below V.heap.size V X6 := hS
      have BB := hS
      clear hS
      have t4 : a.eval (.tmp 4) = .bool false := h4 0 _ rfl _ rfl
      replace A := (⟨h1, h2.trans A.2⟩ : a.tmps.size = 42 ∧ a.defers = [])
      clear h1 h2 h3 h4
      clear t5 t12 t13 t14 t7
      have hE : stQ f n tm J = false := Bool.eq_false_iff.2 fun q => by have := (stQ_iff.1 q).1 i lti; omega
      rw [hE]
      refine wp_ret ?_
      repeat (first | refine ret_in ?_ | refine ret_then ?_)
      refine bodyPost_ret (results_tmp rfl _ _ _) A.2 ⟨?_, BB⟩
      show Ending.returned (a.eval (.tmp 4)) = _
      rw [t4]
    · by_cases h2 : (J : Int) ≤ f i
      · obtain ⟨w, ew⟩ : ∃ w : Nat, f i = w := ⟨(f i).toNat, by omega⟩
        have cW : ∀ X, Below V.heap.size V X → X.cell? ⟨ib, io + i, none⟩ = some (.int .i64 ((w : Nat) : Int)) := fun X hX => by rw [cI i lti X hX, ew]
        refine wp_seq ?_
        refine wp_region_sq (σ := Unit) 42 [(0, 16), (1, 17), (2, 7)] (fun j_ s X => match j_ with | 0 => Below V.heap.size V X ∧ (X.ownsRow V.heap.size 3 1 v11 (J) (intsL (J) (fun j => tm j - (cntC (gN f) j i : Int)))) | 1 => Below V.heap.size V X ∧ (X.ownsRow V.heap.size 3 1 v11 (J) (intsL (J) (fun j => tm j - (cntC (gN f) j i : Int)))) | 2 => Below V.heap.size V X ∧ (X.ownsRow V.heap.size 3 1 v11 (J) (intsL (J) (fun j => tm j - (cntC (gN f) j i : Int)))) | _ => Below V.heap.size V X ∧ (X.ownsRow V.heap.size 3 1 v11 (J) (intsL (J) (fun j => tm j - (cntC (gN f) j i : Int))))) (fun s => fun i_ => match i_ with | 0 => .pointer (some ⟨ib, io + i, none⟩) | 1 => .int .i64 ((w : Nat) : Int) | 2 => .int .i64 ((w : Nat) : Int) | _ => undef) () A.1 (by kernel_rfl) (by decide) (by decide) ⟨BB, FO⟩ ?_ ?_
        · intro i_ hi_ s a X hf hv hn hS
          match i_, hi_ with
          | 0, _ => exact stepV rfl rfl (execIdxN (k := i) rfl ((hf 12 (by decide)).trans t12) ((hf 14 (by decide)).trans t14) lti) ⟨s, ⟨_, rfl, rfl⟩, hS, fun _ _ => rfl⟩
          | 1, _ => exact stepV rfl rfl (execLd3 rfl (hv 0 (by omega) _ rfl _ rfl) (cW X hS.1)) ⟨s, ⟨_, rfl, rfl⟩, hS, fun _ _ => rfl⟩
          | 2, _ => exact stepV rfl rfl (execAsgB rfl (hv 1 (by omega) _ rfl _ rfl)) ⟨s, ⟨_, rfl, rfl⟩, hS, fun _ _ => rfl⟩
          | k_ + 3, h_ => exact absurd h_ (by simp)
        rintro _ a X4 h1 h2 h3 h4 hS
        clear BB
        clear FO
        replace hS : Below V.heap.size V X4 ∧ (X4.ownsRow V.heap.size 3 1 v11 (J) (intsL (J) (fun j => tm j - (cntC (gN f) j i : Int)))) := hS
        obtain ⟨BB, FO⟩ := hS
        replace t5 := (h3 5 (by decide)).trans t5
        replace t12 := (h3 12 (by decide)).trans t12
        replace t13 := (h3 13 (by decide)).trans t13
        replace t14 := (h3 14 (by decide)).trans t14
        have t7 : a.eval (.tmp 7) = .int .i64 ((w : Nat) : Int) := h4 2 _ rfl _ rfl
        replace A := (⟨h1, h2.trans A.2⟩ : a.tmps.size = 42 ∧ a.defers = [])
        clear h1 h2 h3 h4
        refine wp_seq ?_
        refine wp_seq ?_
        refine wp_region_sq (σ := Unit) 42 [(0, 18), (1, 19), (2, 20), (3, 21), (4, 22), (5, 23), (6, 24), (7, 25)] (fun j_ s X => match j_ with | 0 => Below V.heap.size V X ∧ (X.ownsRow V.heap.size 3 1 v11 (J) (intsL (J) (fun j => tm j - (cntC (gN f) j i : Int)))) | 1 => Below V.heap.size V X ∧ (X.ownsRow V.heap.size 3 1 v11 (J) (intsL (J) (fun j => tm j - (cntC (gN f) j i : Int)))) | 2 => Below V.heap.size V X ∧ (X.ownsRow V.heap.size 3 1 v11 (J) (intsL (J) (fun j => tm j - (cntC (gN f) j i : Int)))) | 3 => Below V.heap.size V X ∧ (X.ownsRow V.heap.size 3 1 v11 (J) (intsL (J) (fun j => tm j - (cntC (gN f) j i : Int)))) | 4 => Below V.heap.size V X ∧ (X.ownsRow V.heap.size 3 1 v11 (J) (intsL (J) (fun j => tm j - (cntC (gN f) j i : Int)))) | 5 => Below V.heap.size V X ∧ (X.ownsRow V.heap.size 3 1 v11 (J) (intsL (J) (fun j => tm j - (cntC (gN f) j i : Int)))) | 6 => Below V.heap.size V X ∧ (X.ownsRow V.heap.size 3 1 v11 (J) (intsL (J) (fun j => tm j - (cntC (gN f) j i : Int)))) | 7 => Below V.heap.size V X ∧ (X.ownsRow V.heap.size 3 1 v11 (J) (intsL (J) (fun j => tm j - (cntC (gN f) j i : Int)))) | _ => Below V.heap.size V X ∧ (X.ownsRow V.heap.size 3 1 v11 (J) (intsL (J) (fun j => tm j - (cntC (gN f) j i : Int))))) (fun s => fun i_ => match i_ with | 0 => .int .i64 ((w : Nat) : Int) | 1 => .bool false | 2 => .bool false | 3 => .int .i64 ((w : Nat) : Int) | 4 => v11 | 5 => .int .i64 ((J : Nat) : Int) | 6 => .bool true | 7 => .bool true | _ => undef) () A.1 (by kernel_rfl) (by decide) (by decide) ⟨BB, FO⟩ ?_ ?_
        · intro i_ hi_ s a X hf hv hn hS
          match i_, hi_ with
          | 0, _ => exact stepV rfl rfl (execMvB rfl ((hf 7 (by decide)).trans t7)) ⟨s, ⟨_, rfl, rfl⟩, hS, fun _ _ => rfl⟩
          | 1, _ => exact stepV rfl rfl (execDec (execLtW (p := w) (q := 0) rfl (hv 0 (by omega) _ rfl _ rfl) rfl) (decide_eq_false (by omega))) ⟨s, ⟨_, rfl, rfl⟩, hS, fun _ _ => rfl⟩
          | 2, _ => exact stepV rfl rfl (execMvB rfl (hv 1 (by omega) _ rfl _ rfl)) ⟨s, ⟨_, rfl, rfl⟩, hS, fun _ _ => rfl⟩
          | 3, _ => exact stepV rfl (wantedOf rfl (yieldedAt rfl rfl (show a.eval (.tmp 20) = .bool false from (hv 2 (by omega) _ rfl _ rfl)))) (execMvB rfl ((hf 7 (by decide)).trans t7)) ⟨s, ⟨_, rfl, rfl⟩, hS, fun _ _ => rfl⟩
          | 4, _ => exact stepV rfl (wantedOf rfl (yieldedAt rfl rfl (show a.eval (.tmp 20) = .bool false from (hv 2 (by omega) _ rfl _ rfl)))) (execMvB rfl ((hf 5 (by decide)).trans t5)) ⟨s, ⟨_, rfl, rfl⟩, hS, fun _ _ => rfl⟩
          | 5, _ => exact stepV rfl (wantedOf rfl (yieldedAt rfl rfl (show a.eval (.tmp 20) = .bool false from (hv 2 (by omega) _ rfl _ rfl)))) (execLenI (len := J) rfl (hv 4 (by omega) _ rfl _ rfl) (shpO hS.2)) ⟨s, ⟨_, rfl, rfl⟩, hS, fun _ _ => rfl⟩
          | 6, _ => exact stepV rfl (wantedOf rfl (yieldedAt rfl rfl (show a.eval (.tmp 20) = .bool false from (hv 2 (by omega) _ rfl _ rfl)))) (execDec (execGe8 (p := w) (q := J) rfl (hv 3 (by omega) _ rfl _ rfl) (hv 5 (by omega) _ rfl _ rfl)) (decide_eq_true (by omega))) ⟨s, ⟨_, rfl, rfl⟩, hS, fun _ _ => rfl⟩
          | 7, _ => exact stepV rfl rfl (execPickF rfl (hv 2 (by omega) _ rfl _ rfl) (hv 6 (by omega) _ rfl _ rfl)) ⟨s, ⟨_, rfl, rfl⟩, hS, fun _ _ => rfl⟩
          | k_ + 8, h_ => exact absurd h_ (by simp)
        rintro _ a X5 h1 h2 h3 h4 hS
        clear BB
        clear FO
        replace hS : Below V.heap.size V X5 ∧ (X5.ownsRow V.heap.size 3 1 v11 (J) (intsL (J) (fun j => tm j - (cntC (gN f) j i : Int)))) := hS
        obtain ⟨BB, FO⟩ := hS
        replace t5 := (h3 5 (by decide)).trans t5
        replace t12 := (h3 12 (by decide)).trans t12
        replace t13 := (h3 13 (by decide)).trans t13
        replace t14 := (h3 14 (by decide)).trans t14
        replace t7 := (h3 7 (by decide)).trans t7
        have t25 : a.eval (.tmp 25) = .bool true := h4 7 _ rfl _ rfl
        replace A := (⟨h1, h2.trans A.2⟩ : a.tmps.size = 42 ∧ a.defers = [])
        clear h1 h2 h3 h4
        refine wp_cond_true t25 ?_
        refine wp_seq ?_
        clear FO
        refine wp_region_sq (σ := Unit) 42 [(0, 4)] (fun j_ s X => match j_ with | 0 => Below V.heap.size V X | _ => Below V.heap.size V X) (fun s => fun i_ => match i_ with | 0 => .bool false | _ => undef) () A.1 (by kernel_rfl) (by decide) (by decide) (BB) ?_ ?_
        · intro i_ hi_ s a X hf hv hn hS
          match i_, hi_ with
          | 0, _ => exact stepV rfl rfl (execAsgB rfl rfl) ⟨s, ⟨_, rfl, rfl⟩, hS, fun _ _ => rfl⟩
          | k_ + 1, h_ => exact absurd h_ (by simp)
        rintro _ a X6 h1 h2 h3 h4 hS
        clear BB
        replace hS : Below V.heap.size V X6 := hS
        have BB := hS
        clear hS
        have t4 : a.eval (.tmp 4) = .bool false := h4 0 _ rfl _ rfl
        replace A := (⟨h1, h2.trans A.2⟩ : a.tmps.size = 42 ∧ a.defers = [])
        clear h1 h2 h3 h4
        clear t5 t12 t13 t14 t7
        have hE : stQ f n tm J = false := Bool.eq_false_iff.2 fun q => by have := (stQ_iff.1 q).1 i lti; omega
        rw [hE]
        refine wp_ret ?_
        repeat (first | refine ret_in ?_ | refine ret_then ?_)
        refine bodyPost_ret (results_tmp rfl _ _ _) A.2 ⟨?_, BB⟩
        show Ending.returned (a.eval (.tmp 4)) = _
        rw [t4]
      · obtain ⟨w, ew⟩ : ∃ w : Nat, f i = w := ⟨(f i).toNat, by omega⟩
        have cW : ∀ X, Below V.heap.size V X → X.cell? ⟨ib, io + i, none⟩ = some (.int .i64 ((w : Nat) : Int)) := fun X hX => by rw [cI i lti X hX, ew]
        refine wp_seq ?_
        refine wp_region_sq (σ := Unit) 42 [(0, 16), (1, 17), (2, 7)] (fun j_ s X => match j_ with | 0 => Below V.heap.size V X ∧ (X.ownsRow V.heap.size 3 1 v11 (J) (intsL (J) (fun j => tm j - (cntC (gN f) j i : Int)))) | 1 => Below V.heap.size V X ∧ (X.ownsRow V.heap.size 3 1 v11 (J) (intsL (J) (fun j => tm j - (cntC (gN f) j i : Int)))) | 2 => Below V.heap.size V X ∧ (X.ownsRow V.heap.size 3 1 v11 (J) (intsL (J) (fun j => tm j - (cntC (gN f) j i : Int)))) | _ => Below V.heap.size V X ∧ (X.ownsRow V.heap.size 3 1 v11 (J) (intsL (J) (fun j => tm j - (cntC (gN f) j i : Int))))) (fun s => fun i_ => match i_ with | 0 => .pointer (some ⟨ib, io + i, none⟩) | 1 => .int .i64 ((w : Nat) : Int) | 2 => .int .i64 ((w : Nat) : Int) | _ => undef) () A.1 (by kernel_rfl) (by decide) (by decide) ⟨BB, FO⟩ ?_ ?_
        · intro i_ hi_ s a X hf hv hn hS
          match i_, hi_ with
          | 0, _ => exact stepV rfl rfl (execIdxN (k := i) rfl ((hf 12 (by decide)).trans t12) ((hf 14 (by decide)).trans t14) lti) ⟨s, ⟨_, rfl, rfl⟩, hS, fun _ _ => rfl⟩
          | 1, _ => exact stepV rfl rfl (execLd3 rfl (hv 0 (by omega) _ rfl _ rfl) (cW X hS.1)) ⟨s, ⟨_, rfl, rfl⟩, hS, fun _ _ => rfl⟩
          | 2, _ => exact stepV rfl rfl (execAsgB rfl (hv 1 (by omega) _ rfl _ rfl)) ⟨s, ⟨_, rfl, rfl⟩, hS, fun _ _ => rfl⟩
          | k_ + 3, h_ => exact absurd h_ (by simp)
        rintro _ a X4 h1 h2 h3 h4 hS
        clear BB
        clear FO
        replace hS : Below V.heap.size V X4 ∧ (X4.ownsRow V.heap.size 3 1 v11 (J) (intsL (J) (fun j => tm j - (cntC (gN f) j i : Int)))) := hS
        obtain ⟨BB, FO⟩ := hS
        replace t5 := (h3 5 (by decide)).trans t5
        replace t12 := (h3 12 (by decide)).trans t12
        replace t13 := (h3 13 (by decide)).trans t13
        replace t14 := (h3 14 (by decide)).trans t14
        have t7 : a.eval (.tmp 7) = .int .i64 ((w : Nat) : Int) := h4 2 _ rfl _ rfl
        replace A := (⟨h1, h2.trans A.2⟩ : a.tmps.size = 42 ∧ a.defers = [])
        clear h1 h2 h3 h4
        refine wp_seq ?_
        refine wp_seq ?_
        refine wp_region_sq (σ := Unit) 42 [(0, 18), (1, 19), (2, 20), (3, 21), (4, 22), (5, 23), (6, 24), (7, 25)] (fun j_ s X => match j_ with | 0 => Below V.heap.size V X ∧ (X.ownsRow V.heap.size 3 1 v11 (J) (intsL (J) (fun j => tm j - (cntC (gN f) j i : Int)))) | 1 => Below V.heap.size V X ∧ (X.ownsRow V.heap.size 3 1 v11 (J) (intsL (J) (fun j => tm j - (cntC (gN f) j i : Int)))) | 2 => Below V.heap.size V X ∧ (X.ownsRow V.heap.size 3 1 v11 (J) (intsL (J) (fun j => tm j - (cntC (gN f) j i : Int)))) | 3 => Below V.heap.size V X ∧ (X.ownsRow V.heap.size 3 1 v11 (J) (intsL (J) (fun j => tm j - (cntC (gN f) j i : Int)))) | 4 => Below V.heap.size V X ∧ (X.ownsRow V.heap.size 3 1 v11 (J) (intsL (J) (fun j => tm j - (cntC (gN f) j i : Int)))) | 5 => Below V.heap.size V X ∧ (X.ownsRow V.heap.size 3 1 v11 (J) (intsL (J) (fun j => tm j - (cntC (gN f) j i : Int)))) | 6 => Below V.heap.size V X ∧ (X.ownsRow V.heap.size 3 1 v11 (J) (intsL (J) (fun j => tm j - (cntC (gN f) j i : Int)))) | 7 => Below V.heap.size V X ∧ (X.ownsRow V.heap.size 3 1 v11 (J) (intsL (J) (fun j => tm j - (cntC (gN f) j i : Int)))) | _ => Below V.heap.size V X ∧ (X.ownsRow V.heap.size 3 1 v11 (J) (intsL (J) (fun j => tm j - (cntC (gN f) j i : Int))))) (fun s => fun i_ => match i_ with | 0 => .int .i64 ((w : Nat) : Int) | 1 => .bool false | 2 => .bool false | 3 => .int .i64 ((w : Nat) : Int) | 4 => v11 | 5 => .int .i64 ((J : Nat) : Int) | 6 => .bool false | 7 => .bool false | _ => undef) () A.1 (by kernel_rfl) (by decide) (by decide) ⟨BB, FO⟩ ?_ ?_
        · intro i_ hi_ s a X hf hv hn hS
          match i_, hi_ with
          | 0, _ => exact stepV rfl rfl (execMvB rfl ((hf 7 (by decide)).trans t7)) ⟨s, ⟨_, rfl, rfl⟩, hS, fun _ _ => rfl⟩
          | 1, _ => exact stepV rfl rfl (execDec (execLtW (p := w) (q := 0) rfl (hv 0 (by omega) _ rfl _ rfl) rfl) (decide_eq_false (by omega))) ⟨s, ⟨_, rfl, rfl⟩, hS, fun _ _ => rfl⟩
          | 2, _ => exact stepV rfl rfl (execMvB rfl (hv 1 (by omega) _ rfl _ rfl)) ⟨s, ⟨_, rfl, rfl⟩, hS, fun _ _ => rfl⟩
          | 3, _ => exact stepV rfl (wantedOf rfl (yieldedAt rfl rfl (show a.eval (.tmp 20) = .bool false from (hv 2 (by omega) _ rfl _ rfl)))) (execMvB rfl ((hf 7 (by decide)).trans t7)) ⟨s, ⟨_, rfl, rfl⟩, hS, fun _ _ => rfl⟩
          | 4, _ => exact stepV rfl (wantedOf rfl (yieldedAt rfl rfl (show a.eval (.tmp 20) = .bool false from (hv 2 (by omega) _ rfl _ rfl)))) (execMvB rfl ((hf 5 (by decide)).trans t5)) ⟨s, ⟨_, rfl, rfl⟩, hS, fun _ _ => rfl⟩
          | 5, _ => exact stepV rfl (wantedOf rfl (yieldedAt rfl rfl (show a.eval (.tmp 20) = .bool false from (hv 2 (by omega) _ rfl _ rfl)))) (execLenI (len := J) rfl (hv 4 (by omega) _ rfl _ rfl) (shpO hS.2)) ⟨s, ⟨_, rfl, rfl⟩, hS, fun _ _ => rfl⟩
          | 6, _ => exact stepV rfl (wantedOf rfl (yieldedAt rfl rfl (show a.eval (.tmp 20) = .bool false from (hv 2 (by omega) _ rfl _ rfl)))) (execDec (execGe8 (p := w) (q := J) rfl (hv 3 (by omega) _ rfl _ rfl) (hv 5 (by omega) _ rfl _ rfl)) (decide_eq_false (by omega))) ⟨s, ⟨_, rfl, rfl⟩, hS, fun _ _ => rfl⟩
          | 7, _ => exact stepV rfl rfl (execPickF rfl (hv 2 (by omega) _ rfl _ rfl) (hv 6 (by omega) _ rfl _ rfl)) ⟨s, ⟨_, rfl, rfl⟩, hS, fun _ _ => rfl⟩
          | k_ + 8, h_ => exact absurd h_ (by simp)
        rintro _ a X5 h1 h2 h3 h4 hS
        clear BB
        clear FO
        replace hS : Below V.heap.size V X5 ∧ (X5.ownsRow V.heap.size 3 1 v11 (J) (intsL (J) (fun j => tm j - (cntC (gN f) j i : Int)))) := hS
        obtain ⟨BB, FO⟩ := hS
        replace t5 := (h3 5 (by decide)).trans t5
        replace t12 := (h3 12 (by decide)).trans t12
        replace t13 := (h3 13 (by decide)).trans t13
        replace t14 := (h3 14 (by decide)).trans t14
        replace t7 := (h3 7 (by decide)).trans t7
        have t25 : a.eval (.tmp 25) = .bool false := h4 7 _ rfl _ rfl
        replace A := (⟨h1, h2.trans A.2⟩ : a.tmps.size = 42 ∧ a.defers = [])
        clear h1 h2 h3 h4
        refine wp_cond_false t25 ?_
        refine wp_skip ?_
        clear t25
        have hw : w < J := by omega
        have hg : gN f i = w := by show (f i).toNat = w; omega
        obtain ⟨gl, cl, el, hgl, _⟩ := ownL_some9 FO (by omega)
        have hfw := hv2.fits w hw
        have hpw := htm w hw
        have hcw := cnt_le (gN f) w i
        refine wp_region_sq (σ := Unit) 42 [(0, 26), (1, 27), (2, 28), (3, 29), (4, 30), (5, 31)] (fun j_ s X => match j_ with | 0 => Below V.heap.size V X ∧ (X.ownsRow V.heap.size 3 1 v11 (J) (intsL (J) (fun j => tm j - (cntC (gN f) j i : Int)))) | 1 => Below V.heap.size V X ∧ (X.ownsRow V.heap.size 3 1 v11 (J) (intsL (J) (fun j => tm j - (cntC (gN f) j i : Int)))) | 2 => Below V.heap.size V X ∧ (X.ownsRow V.heap.size 3 1 v11 (J) (intsL (J) (fun j => tm j - (cntC (gN f) j i : Int)))) | 3 => Below V.heap.size V X ∧ (X.ownsRow V.heap.size 3 1 v11 (J) (intsL (J) (fun j => tm j - (cntC (gN f) j i : Int)))) | 4 => Below V.heap.size V X ∧ (X.ownsRow V.heap.size 3 1 v11 (J) (intsL (J) (fun j => tm j - (cntC (gN f) j i : Int)))) | 5 => Below V.heap.size V X ∧ (X.ownsRow V.heap.size 3 1 v11 (J) (intsL (J) (fun j => tm j - (cntC (gN f) j i : Int)))) | 6 => Below V.heap.size V X ∧ (X.ownsRow V.heap.size 3 1 v11 (J) (intsL (J) (fun j => tm j - (cntC (gN f) j i : Int)))) | _ => Below V.heap.size V X ∧ (X.ownsRow V.heap.size 3 1 v11 (J) (intsL (J) (fun j => tm j - (cntC (gN f) j (i + 1) : Int))))) (fun s => fun i_ => match i_ with | 0 => v11 | 1 => .int .i64 ((w : Nat) : Int) | 2 => .pointer (some ⟨gl, 0 + w, none⟩) | 3 => .int .i64 (tm w - (cntC (gN f) w i : Int)) | 4 => .int .i64 (tm w - (cntC (gN f) w i : Int) - 1) | 5 => .pointer (some ⟨gl, 0 + w, none⟩) | 6 => undef | _ => undef) () A.1 (by kernel_rfl) (by decide) (by decide) ⟨BB, FO⟩ ?_ ?_
        · intro i_ hi_ s a X hf hv hn hS
          match i_, hi_ with
          | 0, _ => exact stepV rfl rfl (execMvB rfl ((hf 5 (by decide)).trans t5)) ⟨s, ⟨_, rfl, rfl⟩, hS, fun _ _ => rfl⟩
          | 1, _ => exact stepV rfl rfl (execMvB rfl ((hf 7 (by decide)).trans t7)) ⟨s, ⟨_, rfl, rfl⟩, hS, fun _ _ => rfl⟩
          | 2, _ => exact stepV rfl rfl (execIdxN (k := w) rfl ((hv 0 (by omega) _ rfl _ rfl).trans el) (hv 1 (by omega) _ rfl _ rfl) hw) ⟨s, ⟨_, rfl, rfl⟩, hS, fun _ _ => rfl⟩
          | 3, _ => exact stepV rfl rfl (execLd3 rfl (hv 2 (by omega) _ rfl _ rfl) (own_cellI (by have h_ := hS.2; rw [el] at h_; exact h_) hw).1) ⟨s, ⟨_, rfl, rfl⟩, hS, fun _ _ => rfl⟩
          | 4, _ => exact stepV rfl rfl (execSubIg (p := tm w - (cntC (gN f) w i : Int)) (q := 1) (z := tm w - (cntC (gN f) w i : Int) - 1) rfl (hv 3 (by omega) _ rfl _ rfl) rfl rfl (by omega) (by omega)) ⟨s, ⟨_, rfl, rfl⟩, hS, fun _ _ => rfl⟩
          | 5, _ => exact stepV rfl rfl (execIdxN (k := w) rfl ((hv 0 (by omega) _ rfl _ rfl).trans el) (hv 1 (by omega) _ rfl _ rfl) hw) ⟨s, ⟨_, rfl, rfl⟩, hS, fun _ _ => rfl⟩
          | 6, _ =>
            obtain ⟨hc_, hf_⟩ := own_cellI (by have h_ := hS.2; rw [el] at h_; exact h_) hw
            refine stepS rfl rfl (execStI9 rfl (hv 5 (by omega) _ rfl _ rfl) (hv 4 (by omega) _ rfl _ rfl) hc_ hf_) ⟨s, ⟨_, rfl, rfl⟩, ⟨(hS.1).setCell hgl _, st_set hS.2 el hg⟩, fun i hi => ?_⟩
            match i, hi with
            | 0, _ => rfl
            | 1, _ => rfl
            | 2, _ => rfl
            | 3, _ => rfl
            | 4, _ => rfl
            | 5, _ => rfl
            | n_ + 6, h_ => omega
          | k_ + 7, h_ => exact absurd h_ (by simp)
        rintro _ a X7 h1 h2 h3 h4 hS
        clear BB
        clear FO
        replace hS : Below V.heap.size V X7 ∧ (X7.ownsRow V.heap.size 3 1 v11 (J) (intsL (J) (fun j => tm j - (cntC (gN f) j (i + 1) : Int)))) := hS
        obtain ⟨BB, FO2⟩ := hS
        replace t5 := (h3 5 (by decide)).trans t5
        replace t12 := (h3 12 (by decide)).trans t12
        replace t13 := (h3 13 (by decide)).trans t13
        replace t14 := (h3 14 (by decide)).trans t14
        replace A := (⟨h1, h2.trans A.2⟩ : a.tmps.size = 42 ∧ a.defers = [])
        clear h1 h2 h3 h4
        clear t7
        refine wp_region_sq (σ := Unit) 42 [(0, 32), (1, 14)] (fun j_ s X => match j_ with | 0 => Below V.heap.size V X ∧ (X.ownsRow V.heap.size 3 1 v11 (J) (intsL (J) (fun j => tm j - (cntC (gN f) j (i + 1) : Int)))) | 1 => Below V.heap.size V X ∧ (X.ownsRow V.heap.size 3 1 v11 (J) (intsL (J) (fun j => tm j - (cntC (gN f) j (i + 1) : Int)))) | _ => Below V.heap.size V X ∧ (X.ownsRow V.heap.size 3 1 v11 (J) (intsL (J) (fun j => tm j - (cntC (gN f) j (i + 1) : Int))))) (fun s => fun i_ => match i_ with | 0 => .int .i64 ((i + 1 : Nat) : Int) | 1 => .int .i64 ((i + 1 : Nat) : Int) | _ => undef) () A.1 (by kernel_rfl) (by decide) (by decide) ⟨BB, FO2⟩ ?_ ?_
        · intro i_ hi_ s a X hf hv hn hS
          match i_, hi_ with
          | 0, _ => exact stepV rfl rfl (execAd8 (p := i) (q := 1) rfl ((hn 1 (by omega) _ rfl _ rfl).trans t14) rfl (by omega)) ⟨s, ⟨_, rfl, rfl⟩, hS, fun _ _ => rfl⟩
          | 1, _ => exact stepV rfl rfl (execMvB rfl (hv 0 (by omega) _ rfl _ rfl)) ⟨s, ⟨_, rfl, rfl⟩, hS, fun _ _ => rfl⟩
          | k_ + 2, h_ => exact absurd h_ (by simp)
        rintro _ a X8 h1 h2 h3 h4 hS
        clear BB
        clear FO2
        replace hS : Below V.heap.size V X8 ∧ (X8.ownsRow V.heap.size 3 1 v11 (J) (intsL (J) (fun j => tm j - (cntC (gN f) j (i + 1) : Int)))) := hS
        obtain ⟨BB, FO2⟩ := hS
        replace t5 := (h3 5 (by decide)).trans t5
        replace t12 := (h3 12 (by decide)).trans t12
        replace t13 := (h3 13 (by decide)).trans t13
        replace t14 : a.eval (.tmp 14) = .int .i64 ((i + 1 : Nat) : Int) := h4 1 _ rfl _ rfl
        replace A := (⟨h1, h2.trans A.2⟩ : a.tmps.size = 42 ∧ a.defers = [])
        clear h1 h2 h3 h4
        exact ⟨⟨i + 1, lti, allB_succ hok (decide_eq_true (by omega)), A, t5, t12, t13, t14, BB, FO2⟩, by show n - (intOf (a.eval (.tmp 14))).toNat < n - (intOf (Act.eval _ (.tmp 14))).toNat; rw [t14, esi]; show n - (i + 1) < n - i; omega⟩
  · rw [decide_eq_false lti] at t15
    refine wp_cond_false t15 ?_
    refine wp_exit ?_
    first | refine exit_in ?_ | refine exit_then (exit_in ?_) | refine exit_then (exit_then (exit_in ?_))
    clear t15 esi
    obtain rfl : i = n := by omega
    clear t12 t13 t14 lti hi
    refine wp_seq ?_
    refine wp_seq ?_
    refine wp_region_sq (σ := Unit) 42 [(0, 33), (1, 34), (2, 35)] (fun j_ s X => match j_ with | 0 => Below V.heap.size V X ∧ (X.ownsRow V.heap.size 3 1 v11 (J) (intsL (J) (fun j => tm j - (cntC (gN f) j i : Int)))) | 1 => Below V.heap.size V X ∧ (X.ownsRow V.heap.size 3 1 v11 (J) (intsL (J) (fun j => tm j - (cntC (gN f) j i : Int)))) | 2 => Below V.heap.size V X ∧ (X.ownsRow V.heap.size 3 1 v11 (J) (intsL (J) (fun j => tm j - (cntC (gN f) j i : Int)))) | _ => Below V.heap.size V X ∧ (X.ownsRow V.heap.size 3 1 v11 (J) (intsL (J) (fun j => tm j - (cntC (gN f) j i : Int))))) (fun s => fun i_ => match i_ with | 0 => v11 | 1 => .int .i64 ((J : Nat) : Int) | 2 => .int .i64 ((0 : Nat) : Int) | _ => undef) () A.1 (by kernel_rfl) (by decide) (by decide) ⟨BB, FO⟩ ?_ ?_
    · intro i_ hi_ s a X hf hv hn hS
      match i_, hi_ with
      | 0, _ => exact stepV rfl rfl (execMvB rfl ((hf 5 (by decide)).trans t5)) ⟨s, ⟨_, rfl, rfl⟩, hS, fun _ _ => rfl⟩
      | 1, _ => exact stepV rfl rfl (execLenI (len := J) rfl (hv 0 (by omega) _ rfl _ rfl) (shpO hS.2)) ⟨s, ⟨_, rfl, rfl⟩, hS, fun _ _ => rfl⟩
      | 2, _ => exact stepV rfl rfl (execMvB rfl rfl) ⟨s, ⟨_, rfl, rfl⟩, hS, fun _ _ => rfl⟩
      | k_ + 3, h_ => exact absurd h_ (by simp)
    rintro _ a X9 h1 h2 h3 h4 hS
    clear BB
    clear FO
    replace hS : Below V.heap.size V X9 ∧ (X9.ownsRow V.heap.size 3 1 v11 (J) (intsL (J) (fun j => tm j - (cntC (gN f) j i : Int)))) := hS
    obtain ⟨BB, FO⟩ := hS
    have t33 : a.eval (.tmp 33) = v11 := h4 0 _ rfl _ rfl
    have t34 : a.eval (.tmp 34) = .int .i64 ((J : Nat) : Int) := h4 1 _ rfl _ rfl
    have t35 : a.eval (.tmp 35) = .int .i64 ((0 : Nat) : Int) := h4 2 _ rfl _ rfl
    replace A := (⟨h1, h2.trans A.2⟩ : a.tmps.size = 42 ∧ a.defers = [])
    clear h1 h2 h3 h4
    clear t5
    refine wp_block ?_
    refine wp_loop (fun a W => ∃ (j : Nat), j ≤ J ∧ (allB (cnB f i tm) j = true) ∧ (a.tmps.size = 42 ∧ a.defers = []) ∧ a.eval (.tmp 33) = v11 ∧ a.eval (.tmp 34) = .int .i64 ((J : Nat) : Int) ∧ a.eval (.tmp 35) = .int .i64 ((j : Nat) : Int) ∧ Below V.heap.size V W ∧ (W.ownsRow V.heap.size 3 1 v11 (J) (intsL (J) (fun j => tm j - (cntC (gN f) j i : Int))))) (fun a _ => J - (intOf (a.eval (.tmp 35))).toNat) ⟨0, Nat.zero_le _, rfl, A, t33, t34, t35, BB, FO⟩ ?_
    clear A t33 t34 t35 BB FO a
    rintro a XL10 ⟨j, hj, hok2, A, t33, t34, t35, BB, FO⟩
    have esj := t35
    refine wp_seq ?_
    refine wp_region_sq (σ := Unit) 42 [(0, 36)] (fun j_ s X => match j_ with | 0 => Below V.heap.size V X ∧ (X.ownsRow V.heap.size 3 1 v11 (J) (intsL (J) (fun j => tm j - (cntC (gN f) j i : Int)))) | _ => Below V.heap.size V X ∧ (X.ownsRow V.heap.size 3 1 v11 (J) (intsL (J) (fun j => tm j - (cntC (gN f) j i : Int))))) (fun s => fun i_ => match i_ with | 0 => .bool (decide (j < J)) | _ => undef) () A.1 (by kernel_rfl) (by decide) (by decide) ⟨BB, FO⟩ ?_ ?_
    · intro i_ hi_ s a X hf hv hn hS
      match i_, hi_ with
      | 0, _ => exact stepV rfl rfl (execLtW (p := j) (q := J) rfl ((hf 35 (by decide)).trans t35) ((hf 34 (by decide)).trans t34)) ⟨s, ⟨_, rfl, rfl⟩, hS, fun _ _ => rfl⟩
      | k_ + 1, h_ => exact absurd h_ (by simp)
    rintro _ a X10 h1 h2 h3 h4 hS
    clear BB
    clear FO
    replace hS : Below V.heap.size V X10 ∧ (X10.ownsRow V.heap.size 3 1 v11 (J) (intsL (J) (fun j => tm j - (cntC (gN f) j i : Int)))) := hS
    obtain ⟨BB, FO⟩ := hS
    replace t33 := (h3 33 (by decide)).trans t33
    replace t34 := (h3 34 (by decide)).trans t34
    replace t35 := (h3 35 (by decide)).trans t35
    have t36 : a.eval (.tmp 36) = .bool (decide (j < J)) := h4 0 _ rfl _ rfl
    replace A := (⟨h1, h2.trans A.2⟩ : a.tmps.size = 42 ∧ a.defers = [])
    clear h1 h2 h3 h4
    refine wp_seq ?_
    by_cases ltj : j < J
    · rw [decide_eq_true ltj] at t36
      refine wp_cond_true t36 ?_
      refine wp_skip ?_
      clear t36
      refine wp_seq ?_
      refine wp_block ?_
      obtain ⟨gl, cl, el, hgl, _⟩ := ownL_some9 FO (by omega)
      have hpw := htm j ltj
      refine wp_seq ?_
      refine wp_region_sq (σ := Unit) 42 [(0, 37), (1, 38), (2, 9)] (fun j_ s X => match j_ with | 0 => Below V.heap.size V X ∧ (X.ownsRow V.heap.size 3 1 v11 (J) (intsL (J) (fun j => tm j - (cntC (gN f) j i : Int)))) | 1 => Below V.heap.size V X ∧ (X.ownsRow V.heap.size 3 1 v11 (J) (intsL (J) (fun j => tm j - (cntC (gN f) j i : Int)))) | 2 => Below V.heap.size V X ∧ (X.ownsRow V.heap.size 3 1 v11 (J) (intsL (J) (fun j => tm j - (cntC (gN f) j i : Int)))) | _ => Below V.heap.size V X ∧ (X.ownsRow V.heap.size 3 1 v11 (J) (intsL (J) (fun j => tm j - (cntC (gN f) j i : Int))))) (fun s => fun i_ => match i_ with | 0 => .pointer (some ⟨gl, 0 + j, none⟩) | 1 => .int .i64 (tm j - (cntC (gN f) j i : Int)) | 2 => .int .i64 (tm j - (cntC (gN f) j i : Int)) | _ => undef) () A.1 (by kernel_rfl) (by decide) (by decide) ⟨BB, FO⟩ ?_ ?_
      · intro i_ hi_ s a X hf hv hn hS
        match i_, hi_ with
        | 0, _ => exact stepV rfl rfl (execIdxN (k := j) rfl (((hf 33 (by decide)).trans t33).trans el) ((hf 35 (by decide)).trans t35) ltj) ⟨s, ⟨_, rfl, rfl⟩, hS, fun _ _ => rfl⟩
        | 1, _ => exact stepV rfl rfl (execLd3 rfl (hv 0 (by omega) _ rfl _ rfl) (own_cellI (by have h_ := hS.2; rw [el] at h_; exact h_) ltj).1) ⟨s, ⟨_, rfl, rfl⟩, hS, fun _ _ => rfl⟩
        | 2, _ => exact stepV rfl rfl (execAsgB rfl (hv 1 (by omega) _ rfl _ rfl)) ⟨s, ⟨_, rfl, rfl⟩, hS, fun _ _ => rfl⟩
        | k_ + 3, h_ => exact absurd h_ (by simp)
      rintro _ a X11 h1 h2 h3 h4 hS
      clear BB
      clear FO
      replace hS : Below V.heap.size V X11 ∧ (X11.ownsRow V.heap.size 3 1 v11 (J) (intsL (J) (fun j => tm j - (cntC (gN f) j i : Int)))) := hS
      obtain ⟨BB, FO⟩ := hS
      replace t33 := (h3 33 (by decide)).trans t33
      replace t34 := (h3 34 (by decide)).trans t34
      replace t35 := (h3 35 (by decide)).trans t35
      have t9 : a.eval (.tmp 9) = .int .i64 (tm j - (cntC (gN f) j i : Int)) := h4 2 _ rfl _ rfl
      replace A := (⟨h1, h2.trans A.2⟩ : a.tmps.size = 42 ∧ a.defers = [])
      clear h1 h2 h3 h4
      refine wp_seq ?_
      by_cases hc : tm j = (cntC (gN f) j i : Int)
      · refine wp_region_sq (σ := Unit) 42 [(0, 39), (1, 40)] (fun j_ s X => match j_ with | 0 => Below V.heap.size V X ∧ (X.ownsRow V.heap.size 3 1 v11 (J) (intsL (J) (fun j => tm j - (cntC (gN f) j i : Int)))) | 1 => Below V.heap.size V X ∧ (X.ownsRow V.heap.size 3 1 v11 (J) (intsL (J) (fun j => tm j - (cntC (gN f) j i : Int)))) | _ => Below V.heap.size V X ∧ (X.ownsRow V.heap.size 3 1 v11 (J) (intsL (J) (fun j => tm j - (cntC (gN f) j i : Int))))) (fun s => fun i_ => match i_ with | 0 => .int .i64 (tm j - (cntC (gN f) j i : Int)) | 1 => .bool false | _ => undef) () A.1 (by kernel_rfl) (by decide) (by decide) ⟨BB, FO⟩ ?_ ?_
        · intro i_ hi_ s a X hf hv hn hS
          match i_, hi_ with
          | 0, _ => exact stepV rfl rfl (execMvB rfl ((hf 9 (by decide)).trans t9)) ⟨s, ⟨_, rfl, rfl⟩, hS, fun _ _ => rfl⟩
          | 1, _ => exact stepV rfl rfl (execNeIf (p := tm j - (cntC (gN f) j i : Int)) (q := 0) rfl (hv 0 (by omega) _ rfl _ rfl) rfl (by omega)) ⟨s, ⟨_, rfl, rfl⟩, hS, fun _ _ => rfl⟩
          | k_ + 2, h_ => exact absurd h_ (by simp)
        rintro _ a X12 h1 h2 h3 h4 hS
        clear BB
        clear FO
        replace hS : Below V.heap.size V X12 ∧ (X12.ownsRow V.heap.size 3 1 v11 (J) (intsL (J) (fun j => tm j - (cntC (gN f) j i : Int)))) := hS
        obtain ⟨BB, FO⟩ := hS
        replace t33 := (h3 33 (by decide)).trans t33
        replace t34 := (h3 34 (by decide)).trans t34
        replace t35 := (h3 35 (by decide)).trans t35
        have t40 : a.eval (.tmp 40) = .bool false := h4 1 _ rfl _ rfl
        replace A := (⟨h1, h2.trans A.2⟩ : a.tmps.size = 42 ∧ a.defers = [])
        clear h1 h2 h3 h4
        clear t9
        refine wp_cond_false t40 ?_
        refine wp_skip ?_
        clear t40
        refine wp_region_sq (σ := Unit) 42 [(0, 41), (1, 35)] (fun j_ s X => match j_ with | 0 => Below V.heap.size V X ∧ (X.ownsRow V.heap.size 3 1 v11 (J) (intsL (J) (fun j => tm j - (cntC (gN f) j i : Int)))) | 1 => Below V.heap.size V X ∧ (X.ownsRow V.heap.size 3 1 v11 (J) (intsL (J) (fun j => tm j - (cntC (gN f) j i : Int)))) | _ => Below V.heap.size V X ∧ (X.ownsRow V.heap.size 3 1 v11 (J) (intsL (J) (fun j => tm j - (cntC (gN f) j i : Int))))) (fun s => fun i_ => match i_ with | 0 => .int .i64 ((j + 1 : Nat) : Int) | 1 => .int .i64 ((j + 1 : Nat) : Int) | _ => undef) () A.1 (by kernel_rfl) (by decide) (by decide) ⟨BB, FO⟩ ?_ ?_
        · intro i_ hi_ s a X hf hv hn hS
          match i_, hi_ with
          | 0, _ => exact stepV rfl rfl (execAd8 (p := j) (q := 1) rfl ((hn 1 (by omega) _ rfl _ rfl).trans t35) rfl (by omega)) ⟨s, ⟨_, rfl, rfl⟩, hS, fun _ _ => rfl⟩
          | 1, _ => exact stepV rfl rfl (execMvB rfl (hv 0 (by omega) _ rfl _ rfl)) ⟨s, ⟨_, rfl, rfl⟩, hS, fun _ _ => rfl⟩
          | k_ + 2, h_ => exact absurd h_ (by simp)
        rintro _ a X14 h1 h2 h3 h4 hS
        clear BB
        clear FO
        replace hS : Below V.heap.size V X14 ∧ (X14.ownsRow V.heap.size 3 1 v11 (J) (intsL (J) (fun j => tm j - (cntC (gN f) j i : Int)))) := hS
        obtain ⟨BB, FO⟩ := hS
        replace t33 := (h3 33 (by decide)).trans t33
        replace t34 := (h3 34 (by decide)).trans t34
        replace t35 : a.eval (.tmp 35) = .int .i64 ((j + 1 : Nat) : Int) := h4 1 _ rfl _ rfl
        replace A := (⟨h1, h2.trans A.2⟩ : a.tmps.size = 42 ∧ a.defers = [])
        clear h1 h2 h3 h4
        exact ⟨⟨j + 1, ltj, allB_succ hok2 (decide_eq_true hc), A, t33, t34, t35, BB, FO⟩, by show J - (intOf (a.eval (.tmp 35))).toNat < J - (intOf (Act.eval _ (.tmp 35))).toNat; rw [t35, esj]; show J - (j + 1) < J - j; omega⟩
      · refine wp_region_sq (σ := Unit) 42 [(0, 39), (1, 40)] (fun j_ s X => match j_ with | 0 => Below V.heap.size V X ∧ (X.ownsRow V.heap.size 3 1 v11 (J) (intsL (J) (fun j => tm j - (cntC (gN f) j i : Int)))) | 1 => Below V.heap.size V X ∧ (X.ownsRow V.heap.size 3 1 v11 (J) (intsL (J) (fun j => tm j - (cntC (gN f) j i : Int)))) | _ => Below V.heap.size V X ∧ (X.ownsRow V.heap.size 3 1 v11 (J) (intsL (J) (fun j => tm j - (cntC (gN f) j i : Int))))) (fun s => fun i_ => match i_ with | 0 => .int .i64 (tm j - (cntC (gN f) j i : Int)) | 1 => .bool true | _ => undef) () A.1 (by kernel_rfl) (by decide) (by decide) ⟨BB, FO⟩ ?_ ?_
        · intro i_ hi_ s a X hf hv hn hS
          match i_, hi_ with
          | 0, _ => exact stepV rfl rfl (execMvB rfl ((hf 9 (by decide)).trans t9)) ⟨s, ⟨_, rfl, rfl⟩, hS, fun _ _ => rfl⟩
          | 1, _ => exact stepV rfl rfl (execNeIt (p := tm j - (cntC (gN f) j i : Int)) (q := 0) rfl (hv 0 (by omega) _ rfl _ rfl) rfl (by omega)) ⟨s, ⟨_, rfl, rfl⟩, hS, fun _ _ => rfl⟩
          | k_ + 2, h_ => exact absurd h_ (by simp)
        rintro _ a X12 h1 h2 h3 h4 hS
        clear BB
        clear FO
        replace hS : Below V.heap.size V X12 ∧ (X12.ownsRow V.heap.size 3 1 v11 (J) (intsL (J) (fun j => tm j - (cntC (gN f) j i : Int)))) := hS
        obtain ⟨BB, FO⟩ := hS
        replace t33 := (h3 33 (by decide)).trans t33
        replace t34 := (h3 34 (by decide)).trans t34
        replace t35 := (h3 35 (by decide)).trans t35
        have t40 : a.eval (.tmp 40) = .bool true := h4 1 _ rfl _ rfl
        replace A := (⟨h1, h2.trans A.2⟩ : a.tmps.size = 42 ∧ a.defers = [])
        clear h1 h2 h3 h4
        clear t9
        refine wp_cond_true t40 ?_
        refine wp_seq ?_
        clear FO
        refine wp_region_sq (σ := Unit) 42 [(0, 4)] (fun j_ s X => match j_ with | 0 => Below V.heap.size V X | _ => Below V.heap.size V X) (fun s => fun i_ => match i_ with | 0 => .bool false | _ => undef) () A.1 (by kernel_rfl) (by decide) (by decide) (BB) ?_ ?_
        · intro i_ hi_ s a X hf hv hn hS
          match i_, hi_ with
          | 0, _ => exact stepV rfl rfl (execAsgB rfl rfl) ⟨s, ⟨_, rfl, rfl⟩, hS, fun _ _ => rfl⟩
          | k_ + 1, h_ => exact absurd h_ (by simp)
        rintro _ a X13 h1 h2 h3 h4 hS
        clear BB
        replace hS : Below V.heap.size V X13 := hS
        have BB := hS
        clear hS
        have t4 : a.eval (.tmp 4) = .bool false := h4 0 _ rfl _ rfl
        replace A := (⟨h1, h2.trans A.2⟩ : a.tmps.size = 42 ∧ a.defers = [])
        clear h1 h2 h3 h4
        clear t33 t34 t35
        have hE : stQ f i tm J = false := Bool.eq_false_iff.2 fun q => hc ((stQ_iff.1 q).2 j ltj)
        rw [hE]
        refine wp_ret ?_
        repeat (first | refine ret_in ?_ | refine ret_then ?_)
        refine bodyPost_ret (results_tmp rfl _ _ _) A.2 ⟨?_, BB⟩
        show Ending.returned (a.eval (.tmp 4)) = _
        rw [t4]
    · rw [decide_eq_false ltj] at t36
      refine wp_cond_false t36 ?_
      refine wp_exit ?_
      first | refine exit_in ?_ | refine exit_then (exit_in ?_) | refine exit_then (exit_then (exit_in ?_))
      clear t36 esj
      obtain rfl : j = J := by omega
      have hE : stQ f i tm j = true := by unfold stQ; rw [hok, hok2]; rfl
      rw [hE]
      clear t33 t34 t35 FO
      refine wp_seq ?_
      refine wp_region_sq (σ := Unit) 42 [(0, 4)] (fun j_ s X => match j_ with | 0 => Below V.heap.size V X | _ => Below V.heap.size V X) (fun s => fun i_ => match i_ with | 0 => .bool true | _ => undef) () A.1 (by kernel_rfl) (by decide) (by decide) (BB) ?_ ?_
      · intro i_ hi_ s a X hf hv hn hS
        match i_, hi_ with
        | 0, _ => exact stepV rfl rfl (execAsgB rfl rfl) ⟨s, ⟨_, rfl, rfl⟩, hS, fun _ _ => rfl⟩
        | k_ + 1, h_ => exact absurd h_ (by simp)
      rintro _ a X15 h1 h2 h3 h4 hS
      clear BB
      replace hS : Below V.heap.size V X15 := hS
      have BB := hS
      clear hS
      have t4 : a.eval (.tmp 4) = .bool true := h4 0 _ rfl _ rfl
      replace A := (⟨h1, h2.trans A.2⟩ : a.tmps.size = 42 ∧ a.defers = [])
      clear h1 h2 h3 h4
      refine wp_ret ?_
      repeat (first | refine ret_in ?_ | refine ret_then ?_)
      refine bodyPost_ret (results_tmp rfl _ _ _) A.2 ⟨?_, BB⟩
      show Ending.returned (a.eval (.tmp 4)) = _
      rw [t4]
end Go.Proofs.Ytdecmmcphcomhaa.Brd
