import Derived.Test.YtdecmmcphcomhaaQ9d
namespace Go.Proofs.Ytdecmmcphcomhaa.Brd
open Go.RowKit Gf8 Aes By8 Cel Cf Tap Drw Prm
/- The law's apart, whole. Written by tools/mkQ9e.py. -/

theorem execMkLI {o : Oper} {a : Act} {w : World} {x y : Operand} {n : Nat} (ho : o.op = .makeSlice 63 x y) (hx : a.eval x = .int .i64 (n : Int)) (hy : a.eval y = .int .i64 (n : Int)) (hn : n ≤ 1000000) : (execOp a.eval o).run Try.prog w = .ok (.value (.slice (some ⟨w.heap.size, 0, none⟩) n n)) (w.alloc (.cells (madeCells #[.slice none 0 0] n) 23)) := by
  obtain ⟨i, h1, h2, h3, h4⟩ := infoLI
  have h := run_make (P := Try.prog) w 63 23 i (.slice none 0 0) Try.underlying63 h1 h2 .i64 .i64 (n : Int) (n : Int) (by omega) (by omega) (by rw [h4]; omega) (by omega)
  rw [h3, Int.toNat_natCast, Nat.mul_one] at h
  unfold execOp
  simp only [ho, hx, hy, Sem.run_bind, h, Result.andThen_ok, Sem.run_pure]
  rfl
theorem own_mkLI (W : World) (n : Nat) (hn : n ≤ 1000000) : (W.alloc (.cells (madeCells #[.slice none 0 0] n) 23)).ownsRow W.heap.size 23 1 (.slice (some ⟨W.heap.size, 0, none⟩) n n) n (lL (fun _ => .slice none 0 0) n) := by
  refine ⟨by rw [lL_len, Nat.mul_one], Or.inr ⟨_, _, _, rfl, Nat.le_refl _, heapNew W _, Nat.le_refl _, by unfold maxLen; omega, by simp [madeCells], ?_⟩⟩
  apply List.ext_getElem?
  intro j
  by_cases h : j < n
  · rw [lL_get _ _ _ h]
    simp [madeCells, h, Nat.mod_one]
  · rw [List.getElem?_eq_none (by simp; omega), List.getElem?_eq_none (by rw [lL_len]; omega)]
theorem oneI (X : World) {z : Int} (hz : -9223372036854775808 ≤ z ∧ z < 9223372036854775808) : SliceI (X.alloc (.cells #[.int .i64 z] 3)) (.slice (some ⟨X.heap.size, 0, none⟩) 1 1) 1 (fun _ => z) :=
  lit_ints (heapNew X _) (fun j hj => by
    match j, hj with
    | 0, _ => rfl
    | k + 1, h => omega) (fun _ _ => hz) (by omega)
theorem next_z {z y y2 : Nat → Value} {i : Nat} (h : ∀ t, t < i → z t = y t) (hy : ∀ t, t ≠ i → y2 t = y t) : ∀ t, t < i + 1 → updX z i (y2 i) t = y2 t := fun t ht => by
  by_cases e : t = i
  · subst e
    rw [updX_at]
  · rw [show updX z i (y2 i) t = z t from if_neg e, hy t e]
    exact h t (by omega)
theorem next_d {dd d2 : Nat → Nat} {i m : Nat} (h : ∀ t, t < i → dd t ≤ 8) (h2 : d2 i = 8) (h3 : ∀ t, t < m → t ≠ i → d2 t = dd t) (hi : i < m) : ∀ t, t < i + 1 → d2 t ≤ 8 := fun t ht => by
  by_cases e : t = i
  · subst e
    omega
  · rw [h3 t (by omega) e]
    exact h t (by omega)
theorem mark_in {ff : Nat → Nat → Int} {t j : Nat} {z : Int} (h : ∀ l, l < j → ff t l = z) : ∀ l, l < j + 1 → updF ff t j z t l = z := fun l hl => by
  rw [updF_at]
  by_cases q : l = j
  · rw [if_pos q]
  · rw [if_neg q]
    exact h l (by omega)
theorem mark_next {ff : Nat → Nat → Int} {nn : Nat → Nat} {i : Nat} (h : ∀ s, s < i → ∀ j, j < nn s → ff s j = -1000 - (s : Int)) (hi : ∀ l, l < nn i → ff i l = -1000 - (i : Int)) : ∀ s, s < i + 1 → ∀ j, j < nn s → ff s j = -1000 - (s : Int) := fun s hs => by
  by_cases q : s = i
  · subst q
    exact hi
  · exact h s (by omega)
set_option maxRecDepth 100000 in
set_option maxHeartbeats 4000000 in
/-- apart, from region 10: each has grown by eight. -/
theorem apart10 (U V : World) (m gl cl : Nat) (x : Nat → Value) (nn : Nat → Nat) (C : Array Value) (hm : m ≤ 1000) (hC : ∀ t, t < m → C[t]? = some (x t)) (hnn : ∀ t, t < m → nn t ≤ 17592186044000) (S : World) (fx : Nat → Nat → Int) (hfx : ∀ t, t < m → ∀ j, j < nn t → fx t j = -1000 - (t : Int)) (BB : Below U.heap.size U S) (F0 : A0 U V S m x nn fx gl C)
    (a : Act) (A : a.tmps.size = 136 ∧ a.defers = []) (t0 : a.eval (.tmp 0) = .slice (some ⟨gl, 0, none⟩) m cl) :
    (findR 10 (Try.f15.body.getD .skip)).wp Try.prog (bodyPost Try.prog Try.f15 fun e w' => e = .returned (.bool true) ∧ Saved (GxI m x) V w' ∧ Below U.heap.size U w') a S := by
  refine wp_seq ?_
  refine wp_region_sq (σ := Nat × Nat) 136 [(0, 37), (1, 38), (2, 39), (3, 6)] (fun j_ s X => match j_ with | 0 => Below U.heap.size U X ∧ (A0 U V X m x nn fx gl C) | 1 => Below U.heap.size U X ∧ (A0 U V X m x nn fx gl C) | 2 => Below U.heap.size U X ∧ (A0 U V X m x nn fx gl C) | 3 => Below U.heap.size U X ∧ (A0 U V X m x nn fx gl C) ∧ (X.ownsRow s.2 23 1 (.slice (some ⟨s.1, 0, none⟩) m m) m (lL (fun _ => .slice none 0 0) m)) ∧ (gl < s.2) ∧ (U.heap.size ≤ s.2) ∧ (V.heap.size ≤ s.2) | _ => Below U.heap.size U X ∧ (A0 U V X m x nn fx gl C) ∧ (X.ownsRow s.2 23 1 (.slice (some ⟨s.1, 0, none⟩) m m) m (lL (fun _ => .slice none 0 0) m)) ∧ (gl < s.2) ∧ (U.heap.size ≤ s.2) ∧ (V.heap.size ≤ s.2)) (fun s => fun i_ => match i_ with | 0 => .slice (some ⟨gl, 0, none⟩) m cl | 1 => .int .i64 ((m : Nat) : Int) | 2 => .slice (some ⟨s.1, 0, none⟩) m m | 3 => .slice (some ⟨s.1, 0, none⟩) m m | _ => undef) (0, 0) A.1 (by kernel_rfl) (by decide) (by decide) ⟨BB, F0⟩ ?_ ?_
  · intro i_ hi_ s a X hf hv hn hS
    match i_, hi_ with
    | 0, _ => exact stepV rfl rfl (execMvB rfl ((hf 0 (by decide)).trans t0)) ⟨s, ⟨_, rfl, rfl⟩, hS, fun _ _ => rfl⟩
    | 1, _ => exact stepV rfl rfl (execLenLI (len := m) rfl (hv 0 (by omega) _ rfl _ rfl) ⟨_, _, rfl⟩) ⟨s, ⟨_, rfl, rfl⟩, hS, fun _ _ => rfl⟩
    | 2, _ =>
      refine stepV rfl rfl (execMkLI rfl (hv 1 (by omega) _ rfl _ rfl) (hv 1 (by omega) _ rfl _ rfl) (by omega)) ⟨(X.heap.size, X.heap.size), ⟨_, rfl, rfl⟩, ⟨(hS.1).trans (((belNew X _)).mono (hS.1).size), (hS.2.on (belNew X _)), own_mkLI X m (by omega), (Array.getElem?_eq_some_iff.1 hS.2.li).1, (hS.1).size, hS.2.sv.size⟩, fun i hi => ?_⟩
      match i, hi with
      | 0, _ => rfl
      | 1, _ => rfl
      | n_ + 2, h_ => omega
    | 3, _ => exact stepV rfl rfl (execAsgB rfl (hv 2 (by omega) _ rfl _ rfl)) ⟨s, ⟨_, rfl, rfl⟩, hS, fun _ _ => rfl⟩
    | k_ + 4, h_ => exact absurd h_ (by simp)
  rintro ⟨gm, bm⟩ a X10 h1 h2 h3 h4 hS
  clear BB
  clear F0
  replace hS : Below U.heap.size U X10 ∧ (A0 U V X10 m x nn fx gl C) ∧ (X10.ownsRow bm 23 1 (.slice (some ⟨gm, 0, none⟩) m m) m (lL (fun _ => .slice none 0 0) m)) ∧ (gl < bm) ∧ (U.heap.size ≤ bm) ∧ (V.heap.size ≤ bm) := hS
  obtain ⟨BB, F0, FM, Fb, FU, FV⟩ := hS
  replace t0 := (h3 0 (by decide)).trans t0
  have t6 : a.eval (.tmp 6) = .slice (some ⟨gm, 0, none⟩) m m := h4 3 _ rfl _ rfl
  replace A := (⟨h1, h2.trans A.2⟩ : a.tmps.size = 136 ∧ a.defers = [])
  clear h1 h2 h3 h4
  have FA := F0.begin
  clear F0
  have hbl := Fb
  have hbU := FU
  have hbV := FV
  clear Fb FU FV
  refine wp_seq ?_
  refine wp_seq ?_
  refine wp_region_sq (σ := Unit) 136 [(0, 40), (1, 41), (2, 42)] (fun j_ s X => match j_ with | 0 => Below U.heap.size U X ∧ (AS U V X m x x nn (fun _ => 0) fx fx gl C) ∧ (X.ownsRow bm 23 1 (.slice (some ⟨gm, 0, none⟩) m m) m (lL (fun _ => .slice none 0 0) m)) | 1 => Below U.heap.size U X ∧ (AS U V X m x x nn (fun _ => 0) fx fx gl C) ∧ (X.ownsRow bm 23 1 (.slice (some ⟨gm, 0, none⟩) m m) m (lL (fun _ => .slice none 0 0) m)) | 2 => Below U.heap.size U X ∧ (AS U V X m x x nn (fun _ => 0) fx fx gl C) ∧ (X.ownsRow bm 23 1 (.slice (some ⟨gm, 0, none⟩) m m) m (lL (fun _ => .slice none 0 0) m)) | _ => Below U.heap.size U X ∧ (AS U V X m x x nn (fun _ => 0) fx fx gl C) ∧ (X.ownsRow bm 23 1 (.slice (some ⟨gm, 0, none⟩) m m) m (lL (fun _ => .slice none 0 0) m))) (fun s => fun i_ => match i_ with | 0 => .slice (some ⟨gl, 0, none⟩) m cl | 1 => .int .i64 ((m : Nat) : Int) | 2 => .int .i64 ((0 : Nat) : Int) | _ => undef) () A.1 (by kernel_rfl) (by decide) (by decide) ⟨BB, FA, FM⟩ ?_ ?_
  · intro i_ hi_ s a X hf hv hn hS
    match i_, hi_ with
    | 0, _ => exact stepV rfl rfl (execMvB rfl ((hf 0 (by decide)).trans t0)) ⟨s, ⟨_, rfl, rfl⟩, hS, fun _ _ => rfl⟩
    | 1, _ => exact stepV rfl rfl (execLenLI (len := m) rfl (hv 0 (by omega) _ rfl _ rfl) ⟨_, _, rfl⟩) ⟨s, ⟨_, rfl, rfl⟩, hS, fun _ _ => rfl⟩
    | 2, _ => exact stepV rfl rfl (execMvB rfl rfl) ⟨s, ⟨_, rfl, rfl⟩, hS, fun _ _ => rfl⟩
    | k_ + 3, h_ => exact absurd h_ (by simp)
  rintro _ a X11 h1 h2 h3 h4 hS
  clear BB
  clear FA
  clear FM
  replace hS : Below U.heap.size U X11 ∧ (AS U V X11 m x x nn (fun _ => 0) fx fx gl C) ∧ (X11.ownsRow bm 23 1 (.slice (some ⟨gm, 0, none⟩) m m) m (lL (fun _ => .slice none 0 0) m)) := hS
  obtain ⟨BB, FA, FM⟩ := hS
  replace t0 := (h3 0 (by decide)).trans t0
  replace t6 := (h3 6 (by decide)).trans t6
  have t40 : a.eval (.tmp 40) = .slice (some ⟨gl, 0, none⟩) m cl := h4 0 _ rfl _ rfl
  have t41 : a.eval (.tmp 41) = .int .i64 ((m : Nat) : Int) := h4 1 _ rfl _ rfl
  have t42 : a.eval (.tmp 42) = .int .i64 ((0 : Nat) : Int) := h4 2 _ rfl _ rfl
  replace A := (⟨h1, h2.trans A.2⟩ : a.tmps.size = 136 ∧ a.defers = [])
  clear h1 h2 h3 h4
  refine wp_block ?_
  refine wp_loop (fun a W => ∃ (i : Nat) (y : Nat → Value) (z : Nat → Value) (dd : Nat → Nat) (fy : Nat → Nat → Int), i ≤ m ∧ (∀ t, t < i → z t = y t) ∧ (∀ t, t < i → dd t ≤ 8) ∧ (∀ t, i ≤ t → t < m → y t = x t ∧ dd t = 0) ∧ (∀ t, t < m → ∀ j, nn t ≤ j → j < nn t + dd t → fy t j = -2000 - (t : Int)) ∧ (a.tmps.size = 136 ∧ a.defers = []) ∧ a.eval (.tmp 0) = .slice (some ⟨gl, 0, none⟩) m cl ∧ a.eval (.tmp 6) = .slice (some ⟨gm, 0, none⟩) m m ∧ a.eval (.tmp 40) = .slice (some ⟨gl, 0, none⟩) m cl ∧ a.eval (.tmp 41) = .int .i64 ((m : Nat) : Int) ∧ a.eval (.tmp 42) = .int .i64 ((i : Nat) : Int) ∧ Below U.heap.size U W ∧ (AS U V W m x y nn dd fx fy gl C) ∧ (W.ownsRow bm 23 1 (.slice (some ⟨gm, 0, none⟩) m m) m (lL z m))) (fun a _ => m - (intOf (a.eval (.tmp 42))).toNat) ⟨0, x, fun _ => .slice none 0 0, fun _ => 0, fx, Nat.zero_le _, fun t ht => absurd ht (Nat.not_lt_zero _), fun t ht => absurd ht (Nat.not_lt_zero _), fun _ _ _ => ⟨rfl, rfl⟩, fun t ht j h1 h2 => absurd h2 (by show ¬ j < nn t + 0; omega), A, t0, t6, t40, t41, t42, BB, FA, FM⟩ ?_
  clear A t0 t6 t40 t41 t42 BB FA FM a
  rintro a XL12 ⟨i, y, z, dd, fy, hi, hz, hd8, hyx, hfy, A, t0, t6, t40, t41, t42, BB, FA, FM⟩
  have esi := t42
  refine wp_seq ?_
  refine wp_region_sq (σ := Unit) 136 [(0, 43)] (fun j_ s X => match j_ with | 0 => Below U.heap.size U X ∧ (AS U V X m x y nn dd fx fy gl C) ∧ (X.ownsRow bm 23 1 (.slice (some ⟨gm, 0, none⟩) m m) m (lL z m)) | _ => Below U.heap.size U X ∧ (AS U V X m x y nn dd fx fy gl C) ∧ (X.ownsRow bm 23 1 (.slice (some ⟨gm, 0, none⟩) m m) m (lL z m))) (fun s => fun i_ => match i_ with | 0 => .bool (decide (i < m)) | _ => undef) () A.1 (by kernel_rfl) (by decide) (by decide) ⟨BB, FA, FM⟩ ?_ ?_
  · intro i_ hi_ s a X hf hv hn hS
    match i_, hi_ with
    | 0, _ => exact stepV rfl rfl (execLtW (p := i) (q := m) rfl ((hf 42 (by decide)).trans t42) ((hf 41 (by decide)).trans t41)) ⟨s, ⟨_, rfl, rfl⟩, hS, fun _ _ => rfl⟩
    | k_ + 1, h_ => exact absurd h_ (by simp)
  rintro _ a X12 h1 h2 h3 h4 hS
  clear BB
  clear FA
  clear FM
  replace hS : Below U.heap.size U X12 ∧ (AS U V X12 m x y nn dd fx fy gl C) ∧ (X12.ownsRow bm 23 1 (.slice (some ⟨gm, 0, none⟩) m m) m (lL z m)) := hS
  obtain ⟨BB, FA, FM⟩ := hS
  replace t0 := (h3 0 (by decide)).trans t0
  replace t6 := (h3 6 (by decide)).trans t6
  replace t40 := (h3 40 (by decide)).trans t40
  replace t41 := (h3 41 (by decide)).trans t41
  replace t42 := (h3 42 (by decide)).trans t42
  have t43 : a.eval (.tmp 43) = .bool (decide (i < m)) := h4 0 _ rfl _ rfl
  replace A := (⟨h1, h2.trans A.2⟩ : a.tmps.size = 136 ∧ a.defers = [])
  clear h1 h2 h3 h4
  refine wp_seq ?_
  by_cases lti : i < m
  · rw [decide_eq_true lti] at t43
    refine wp_cond_true t43 ?_
    refine wp_skip ?_
    clear t43
    refine wp_seq ?_
    refine wp_block ?_
    have hd8o := hd8
    have hni := hnn i lti
    refine wp_seq ?_
    refine wp_region_sq (σ := Unit) 136 [(0, 44), (1, 45), (2, 46), (3, 7), (4, 8)] (fun j_ s X => match j_ with | 0 => Below U.heap.size U X ∧ (AS U V X m x y nn dd fx fy gl C) ∧ (X.ownsRow bm 23 1 (.slice (some ⟨gm, 0, none⟩) m m) m (lL z m)) | 1 => Below U.heap.size U X ∧ (AS U V X m x y nn dd fx fy gl C) ∧ (X.ownsRow bm 23 1 (.slice (some ⟨gm, 0, none⟩) m m) m (lL z m)) | 2 => Below U.heap.size U X ∧ (AS U V X m x y nn dd fx fy gl C) ∧ (X.ownsRow bm 23 1 (.slice (some ⟨gm, 0, none⟩) m m) m (lL z m)) | 3 => Below U.heap.size U X ∧ (AS U V X m x y nn dd fx fy gl C) ∧ (X.ownsRow bm 23 1 (.slice (some ⟨gm, 0, none⟩) m m) m (lL z m)) | 4 => Below U.heap.size U X ∧ (AS U V X m x y nn dd fx fy gl C) ∧ (X.ownsRow bm 23 1 (.slice (some ⟨gm, 0, none⟩) m m) m (lL z m)) | _ => Below U.heap.size U X ∧ (AS U V X m x y nn dd fx fy gl C) ∧ (X.ownsRow bm 23 1 (.slice (some ⟨gm, 0, none⟩) m m) m (lL z m))) (fun s => fun i_ => match i_ with | 0 => .int .i64 ((i : Nat) : Int) | 1 => .pointer (some ⟨gl, 0 + i, none⟩) | 2 => x i | 3 => .int .i64 ((i : Nat) : Int) | 4 => x i | _ => undef) () A.1 (by kernel_rfl) (by decide) (by decide) ⟨BB, FA, FM⟩ ?_ ?_
    · intro i_ hi_ s a X hf hv hn hS
      match i_, hi_ with
      | 0, _ => exact stepV rfl rfl (execMvB rfl ((hf 42 (by decide)).trans t42)) ⟨s, ⟨_, rfl, rfl⟩, hS, fun _ _ => rfl⟩
      | 1, _ => exact stepV rfl rfl (execIdxLI (k := i) rfl ((hf 40 (by decide)).trans t40) ((hf 42 (by decide)).trans t42) lti) ⟨s, ⟨_, rfl, rfl⟩, hS, fun _ _ => rfl⟩
      | 2, _ => exact stepV rfl rfl (execLdLI (v := x i) rfl (hv 1 (by omega) _ rfl _ rfl) (hS.2.1.cell (hC i lti))) ⟨s, ⟨_, rfl, rfl⟩, hS, fun _ _ => rfl⟩
      | 3, _ => exact stepV rfl rfl (execAsgB rfl (hv 0 (by omega) _ rfl _ rfl)) ⟨s, ⟨_, rfl, rfl⟩, hS, fun _ _ => rfl⟩
      | 4, _ => exact stepV rfl rfl (execAsgB rfl (hv 2 (by omega) _ rfl _ rfl)) ⟨s, ⟨_, rfl, rfl⟩, hS, fun _ _ => rfl⟩
      | k_ + 5, h_ => exact absurd h_ (by simp)
    rintro _ a X13 h1 h2 h3 h4 hS
    clear BB
    clear FA
    clear FM
    replace hS : Below U.heap.size U X13 ∧ (AS U V X13 m x y nn dd fx fy gl C) ∧ (X13.ownsRow bm 23 1 (.slice (some ⟨gm, 0, none⟩) m m) m (lL z m)) := hS
    obtain ⟨BB, FA, FM⟩ := hS
    replace t0 := (h3 0 (by decide)).trans t0
    replace t6 := (h3 6 (by decide)).trans t6
    replace t40 := (h3 40 (by decide)).trans t40
    replace t41 := (h3 41 (by decide)).trans t41
    replace t42 := (h3 42 (by decide)).trans t42
    have t7 : a.eval (.tmp 7) = .int .i64 ((i : Nat) : Int) := h4 3 _ rfl _ rfl
    have t8 : a.eval (.tmp 8) = x i := h4 4 _ rfl _ rfl
    replace A := (⟨h1, h2.trans A.2⟩ : a.tmps.size = 136 ∧ a.defers = [])
    clear h1 h2 h3 h4
    refine wp_seq ?_
    refine wp_region_sq (σ := Unit) 136 [(0, 47), (1, 9)] (fun j_ s X => match j_ with | 0 => Below U.heap.size U X ∧ (AS U V X m x y nn dd fx fy gl C) ∧ (X.ownsRow bm 23 1 (.slice (some ⟨gm, 0, none⟩) m m) m (lL z m)) | 1 => Below U.heap.size U X ∧ (AS U V X m x y nn dd fx fy gl C) ∧ (X.ownsRow bm 23 1 (.slice (some ⟨gm, 0, none⟩) m m) m (lL z m)) | _ => Below U.heap.size U X ∧ (AS U V X m x y nn dd fx fy gl C) ∧ (X.ownsRow bm 23 1 (.slice (some ⟨gm, 0, none⟩) m m) m (lL z m))) (fun s => fun i_ => match i_ with | 0 => x i | 1 => x i | _ => undef) () A.1 (by kernel_rfl) (by decide) (by decide) ⟨BB, FA, FM⟩ ?_ ?_
    · intro i_ hi_ s a X hf hv hn hS
      match i_, hi_ with
      | 0, _ => exact stepV rfl rfl (execMvB rfl ((hf 8 (by decide)).trans t8)) ⟨s, ⟨_, rfl, rfl⟩, hS, fun _ _ => rfl⟩
      | 1, _ => exact stepV rfl rfl (execAsgB rfl (hv 0 (by omega) _ rfl _ rfl)) ⟨s, ⟨_, rfl, rfl⟩, hS, fun _ _ => rfl⟩
      | k_ + 2, h_ => exact absurd h_ (by simp)
    rintro _ a X14 h1 h2 h3 h4 hS
    clear BB
    clear FA
    clear FM
    replace hS : Below U.heap.size U X14 ∧ (AS U V X14 m x y nn dd fx fy gl C) ∧ (X14.ownsRow bm 23 1 (.slice (some ⟨gm, 0, none⟩) m m) m (lL z m)) := hS
    obtain ⟨BB, FA, FM⟩ := hS
    replace t0 := (h3 0 (by decide)).trans t0
    replace t6 := (h3 6 (by decide)).trans t6
    replace t40 := (h3 40 (by decide)).trans t40
    replace t41 := (h3 41 (by decide)).trans t41
    replace t42 := (h3 42 (by decide)).trans t42
    replace t7 := (h3 7 (by decide)).trans t7
    have t9 : a.eval (.tmp 9) = x i := h4 1 _ rfl _ rfl
    replace A := (⟨h1, h2.trans A.2⟩ : a.tmps.size = 136 ∧ a.defers = [])
    clear h1 h2 h3 h4
    clear t8
    rw [← (hyx i (Nat.le_refl _) lti).1] at t9
    have hdi := (hyx i (Nat.le_refl _) lti).2
    refine wp_seq ?_
    refine wp_seq ?_
    refine wp_region_sq (σ := Unit) 136 [(0, 48)] (fun j_ s X => match j_ with | 0 => Below U.heap.size U X ∧ (AS U V X m x y nn dd fx fy gl C) ∧ (X.ownsRow bm 23 1 (.slice (some ⟨gm, 0, none⟩) m m) m (lL z m)) | _ => Below U.heap.size U X ∧ (AS U V X m x y nn dd fx fy gl C) ∧ (X.ownsRow bm 23 1 (.slice (some ⟨gm, 0, none⟩) m m) m (lL z m))) (fun s => fun i_ => match i_ with | 0 => .int .i64 ((0 : Nat) : Int) | _ => undef) () A.1 (by kernel_rfl) (by decide) (by decide) ⟨BB, FA, FM⟩ ?_ ?_
    · intro i_ hi_ s a X hf hv hn hS
      match i_, hi_ with
      | 0, _ => exact stepV rfl rfl (execMvB rfl rfl) ⟨s, ⟨_, rfl, rfl⟩, hS, fun _ _ => rfl⟩
      | k_ + 1, h_ => exact absurd h_ (by simp)
    rintro _ a X15 h1 h2 h3 h4 hS
    clear BB
    clear FA
    clear FM
    replace hS : Below U.heap.size U X15 ∧ (AS U V X15 m x y nn dd fx fy gl C) ∧ (X15.ownsRow bm 23 1 (.slice (some ⟨gm, 0, none⟩) m m) m (lL z m)) := hS
    obtain ⟨BB, FA, FM⟩ := hS
    replace t0 := (h3 0 (by decide)).trans t0
    replace t6 := (h3 6 (by decide)).trans t6
    replace t40 := (h3 40 (by decide)).trans t40
    replace t41 := (h3 41 (by decide)).trans t41
    replace t42 := (h3 42 (by decide)).trans t42
    replace t7 := (h3 7 (by decide)).trans t7
    replace t9 := (h3 9 (by decide)).trans t9
    have t48 : a.eval (.tmp 48) = .int .i64 ((0 : Nat) : Int) := h4 0 _ rfl _ rfl
    replace A := (⟨h1, h2.trans A.2⟩ : a.tmps.size = 136 ∧ a.defers = [])
    clear h1 h2 h3 h4
    refine wp_block ?_
    refine wp_loop (fun a W => ∃ (c : Nat) (y2 : Nat → Value) (dd2 : Nat → Nat) (fy2 : Nat → Nat → Int), c ≤ 8 ∧ (dd2 i = c) ∧ (∀ t, t < m → t ≠ i → dd2 t = dd t) ∧ (∀ t, t ≠ i → y2 t = y t) ∧ (∀ t, t < m → ∀ j, nn t ≤ j → j < nn t + dd2 t → fy2 t j = -2000 - (t : Int)) ∧ (a.tmps.size = 136 ∧ a.defers = []) ∧ a.eval (.tmp 0) = .slice (some ⟨gl, 0, none⟩) m cl ∧ a.eval (.tmp 6) = .slice (some ⟨gm, 0, none⟩) m m ∧ a.eval (.tmp 40) = .slice (some ⟨gl, 0, none⟩) m cl ∧ a.eval (.tmp 41) = .int .i64 ((m : Nat) : Int) ∧ a.eval (.tmp 42) = .int .i64 ((i : Nat) : Int) ∧ a.eval (.tmp 7) = .int .i64 ((i : Nat) : Int) ∧ a.eval (.tmp 9) = y2 i ∧ a.eval (.tmp 48) = .int .i64 ((c : Nat) : Int) ∧ Below U.heap.size U W ∧ (AS U V W m x y2 nn dd2 fx fy2 gl C) ∧ (W.ownsRow bm 23 1 (.slice (some ⟨gm, 0, none⟩) m m) m (lL z m))) (fun a _ => 8 - (intOf (a.eval (.tmp 48))).toNat) ⟨0, y, dd, fy, Nat.zero_le _, hdi, fun _ _ _ => rfl, fun _ _ => rfl, hfy, A, t0, t6, t40, t41, t42, t7, t9, t48, BB, FA, FM⟩ ?_
    clear A t0 t6 t40 t41 t42 t7 t9 t48 BB FA FM a
    rintro a XL16 ⟨c, y2, dd2, fy2, hc, hd2, hd8, hyy, hfy, A, t0, t6, t40, t41, t42, t7, t9, t48, BB, FA, FM⟩
    have esc := t48
    refine wp_seq ?_
    refine wp_region_sq (σ := Unit) 136 [(0, 49)] (fun j_ s X => match j_ with | 0 => Below U.heap.size U X ∧ (AS U V X m x y2 nn dd2 fx fy2 gl C) ∧ (X.ownsRow bm 23 1 (.slice (some ⟨gm, 0, none⟩) m m) m (lL z m)) | _ => Below U.heap.size U X ∧ (AS U V X m x y2 nn dd2 fx fy2 gl C) ∧ (X.ownsRow bm 23 1 (.slice (some ⟨gm, 0, none⟩) m m) m (lL z m))) (fun s => fun i_ => match i_ with | 0 => .bool (decide (c < 8)) | _ => undef) () A.1 (by kernel_rfl) (by decide) (by decide) ⟨BB, FA, FM⟩ ?_ ?_
    · intro i_ hi_ s a X hf hv hn hS
      match i_, hi_ with
      | 0, _ => exact stepV rfl rfl (execLtW (p := c) (q := 8) rfl ((hf 48 (by decide)).trans t48) rfl) ⟨s, ⟨_, rfl, rfl⟩, hS, fun _ _ => rfl⟩
      | k_ + 1, h_ => exact absurd h_ (by simp)
    rintro _ a X16 h1 h2 h3 h4 hS
    clear BB
    clear FA
    clear FM
    replace hS : Below U.heap.size U X16 ∧ (AS U V X16 m x y2 nn dd2 fx fy2 gl C) ∧ (X16.ownsRow bm 23 1 (.slice (some ⟨gm, 0, none⟩) m m) m (lL z m)) := hS
    obtain ⟨BB, FA, FM⟩ := hS
    replace t0 := (h3 0 (by decide)).trans t0
    replace t6 := (h3 6 (by decide)).trans t6
    replace t40 := (h3 40 (by decide)).trans t40
    replace t41 := (h3 41 (by decide)).trans t41
    replace t42 := (h3 42 (by decide)).trans t42
    replace t7 := (h3 7 (by decide)).trans t7
    replace t9 := (h3 9 (by decide)).trans t9
    replace t48 := (h3 48 (by decide)).trans t48
    have t49 : a.eval (.tmp 49) = .bool (decide (c < 8)) := h4 0 _ rfl _ rfl
    replace A := (⟨h1, h2.trans A.2⟩ : a.tmps.size = 136 ∧ a.defers = [])
    clear h1 h2 h3 h4
    refine wp_seq ?_
    by_cases ltc : c < 8
    · rw [decide_eq_true ltc] at t49
      refine wp_cond_true t49 ?_
      refine wp_skip ?_
      clear t49
      refine wp_seq ?_
      refine wp_block ?_
      have hdc := hd2
      refine wp_region_sq (σ := Nat × Value) 136 [(0, 50), (1, 51), (2, 52), (3, 53), (4, 54), (5, 9)] (fun j_ s X => match j_ with | 0 => Below U.heap.size U X ∧ (AS U V X m x y2 nn dd2 fx fy2 gl C) ∧ (X.ownsRow bm 23 1 (.slice (some ⟨gm, 0, none⟩) m m) m (lL z m)) | 1 => Below U.heap.size U X ∧ (AS U V X m x y2 nn dd2 fx fy2 gl C) ∧ (X.ownsRow bm 23 1 (.slice (some ⟨gm, 0, none⟩) m m) m (lL z m)) | 2 => Below U.heap.size U X ∧ (AS U V X m x y2 nn dd2 fx fy2 gl C) ∧ (X.ownsRow bm 23 1 (.slice (some ⟨gm, 0, none⟩) m m) m (lL z m)) | 3 => Below U.heap.size U X ∧ (AS U V X m x y2 nn dd2 fx fy2 gl C) ∧ (X.ownsRow bm 23 1 (.slice (some ⟨gm, 0, none⟩) m m) m (lL z m)) | 4 => Below U.heap.size U X ∧ (AS U V X m x y2 nn dd2 fx fy2 gl C) ∧ (X.ownsRow bm 23 1 (.slice (some ⟨gm, 0, none⟩) m m) m (lL z m)) ∧ (SliceI X (.slice (some ⟨s.1, 0, none⟩) 1 1) 1 (fun _ => -2000 - (i : Int))) | 5 => Below U.heap.size U X ∧ (AS U V X m x (updX y2 i s.2) nn (updD dd2 i 1) fx (updG fy2 i (catI (nn i + dd2 i) (fy2 i) (fun _ => -2000 - (i : Int)))) gl C) ∧ (X.ownsRow bm 23 1 (.slice (some ⟨gm, 0, none⟩) m m) m (lL z m)) | _ => Below U.heap.size U X ∧ (AS U V X m x (updX y2 i s.2) nn (updD dd2 i 1) fx (updG fy2 i (catI (nn i + dd2 i) (fy2 i) (fun _ => -2000 - (i : Int)))) gl C) ∧ (X.ownsRow bm 23 1 (.slice (some ⟨gm, 0, none⟩) m m) m (lL z m))) (fun s => fun i_ => match i_ with | 0 => y2 i | 1 => .int .i64 ((i : Nat) : Int) | 2 => .int .i64 (-2000 - (i : Int)) | 3 => .slice (some ⟨s.1, 0, none⟩) 1 1 | 4 => s.2 | 5 => s.2 | _ => undef) (0, undef) A.1 (by kernel_rfl) (by decide) (by decide) ⟨BB, FA, FM⟩ ?_ ?_
      · intro i_ hi_ s a X hf hv hn hS
        match i_, hi_ with
        | 0, _ => exact stepV rfl rfl (execMvB rfl ((hn 5 (by omega) _ rfl _ rfl).trans t9)) ⟨s, ⟨_, rfl, rfl⟩, hS, fun _ _ => rfl⟩
        | 1, _ => exact stepV rfl rfl (execMvB rfl ((hf 7 (by decide)).trans t7)) ⟨s, ⟨_, rfl, rfl⟩, hS, fun _ _ => rfl⟩
        | 2, _ => exact stepV rfl rfl (execSubIg (p := -2000) (q := (i : Int)) (z := -2000 - (i : Int)) rfl rfl (hv 1 (by omega) _ rfl _ rfl) rfl (by omega) (by omega)) ⟨s, ⟨_, rfl, rfl⟩, hS, fun _ _ => rfl⟩
        | 3, _ =>
          refine stepV rfl rfl (execBsI (z := -2000 - (i : Int)) rfl (hv 2 (by omega) _ rfl _ rfl)) ⟨(X.heap.size, s.2), ⟨_, rfl, rfl⟩, ⟨(hS.1).trans (((belNew X _)).mono (hS.1).size), (hS.2.1.on (belNew X _)), (ownD_below hS.2.2 (belNew X _)), oneI X (by omega)⟩, fun i hi => ?_⟩
          match i, hi with
          | 0, _ => rfl
          | 1, _ => rfl
          | 2, _ => rfl
          | n_ + 3, h_ => omega
        | 4, _ =>
          refine stepAS (t := i) (q := fun _ => -2000 - (i : Int)) rfl rfl rfl (hv 0 (by omega) _ rfl _ rfl) (hv 3 (by omega) _ rfl _ rfl) hS.2.1 lti hS.2.2.2 ⟨_, _, rfl⟩ (by decide) (by omega) fun v' W' has gr => ⟨(s.1, v'), ⟨_, rfl, rfl⟩, ⟨has.bel, has, own_overT hS.2.2.1 (hS.2.1.gp.ry i lti) gr (by decide)⟩, fun i hi => ?_⟩
          match i, hi with
          | 0, _ => rfl
          | 1, _ => rfl
          | 2, _ => rfl
          | 3, _ => rfl
          | n_ + 4, h_ => omega
        | 5, _ => exact stepV rfl rfl (execAsgB rfl (hv 4 (by omega) _ rfl _ rfl)) ⟨s, ⟨_, rfl, rfl⟩, hS, fun _ _ => rfl⟩
        | k_ + 6, h_ => exact absurd h_ (by simp)
      rintro ⟨g53, v54⟩ a X17 h1 h2 h3 h4 hS
      clear BB
      clear FA
      clear FM
      replace hS : Below U.heap.size U X17 ∧ (AS U V X17 m x (updX y2 i v54) nn (updD dd2 i 1) fx (updG fy2 i (catI (nn i + dd2 i) (fy2 i) (fun _ => -2000 - (i : Int)))) gl C) ∧ (X17.ownsRow bm 23 1 (.slice (some ⟨gm, 0, none⟩) m m) m (lL z m)) := hS
      obtain ⟨BB, FA2, FM2⟩ := hS
      replace t0 := (h3 0 (by decide)).trans t0
      replace t6 := (h3 6 (by decide)).trans t6
      replace t40 := (h3 40 (by decide)).trans t40
      replace t41 := (h3 41 (by decide)).trans t41
      replace t42 := (h3 42 (by decide)).trans t42
      replace t7 := (h3 7 (by decide)).trans t7
      replace t9 : a.eval (.tmp 9) = v54 := h4 5 _ rfl _ rfl
      replace t48 := (h3 48 (by decide)).trans t48
      replace A := (⟨h1, h2.trans A.2⟩ : a.tmps.size = 136 ∧ a.defers = [])
      clear h1 h2 h3 h4
      rw [← updX_at y2 i v54] at t9
      refine wp_region_sq (σ := Unit) 136 [(0, 55), (1, 48)] (fun j_ s X => match j_ with | 0 => Below U.heap.size U X ∧ (AS U V X m x (updX y2 i v54) nn (updD dd2 i 1) fx (updG fy2 i (catI (nn i + dd2 i) (fy2 i) (fun _ => -2000 - (i : Int)))) gl C) ∧ (X.ownsRow bm 23 1 (.slice (some ⟨gm, 0, none⟩) m m) m (lL z m)) | 1 => Below U.heap.size U X ∧ (AS U V X m x (updX y2 i v54) nn (updD dd2 i 1) fx (updG fy2 i (catI (nn i + dd2 i) (fy2 i) (fun _ => -2000 - (i : Int)))) gl C) ∧ (X.ownsRow bm 23 1 (.slice (some ⟨gm, 0, none⟩) m m) m (lL z m)) | _ => Below U.heap.size U X ∧ (AS U V X m x (updX y2 i v54) nn (updD dd2 i 1) fx (updG fy2 i (catI (nn i + dd2 i) (fy2 i) (fun _ => -2000 - (i : Int)))) gl C) ∧ (X.ownsRow bm 23 1 (.slice (some ⟨gm, 0, none⟩) m m) m (lL z m))) (fun s => fun i_ => match i_ with | 0 => .int .i64 ((c + 1 : Nat) : Int) | 1 => .int .i64 ((c + 1 : Nat) : Int) | _ => undef) () A.1 (by kernel_rfl) (by decide) (by decide) ⟨BB, FA2, FM2⟩ ?_ ?_
      · intro i_ hi_ s a X hf hv hn hS
        match i_, hi_ with
        | 0, _ => exact stepV rfl rfl (execAd8 (p := c) (q := 1) rfl ((hn 1 (by omega) _ rfl _ rfl).trans t48) rfl (by omega)) ⟨s, ⟨_, rfl, rfl⟩, hS, fun _ _ => rfl⟩
        | 1, _ => exact stepV rfl rfl (execMvB rfl (hv 0 (by omega) _ rfl _ rfl)) ⟨s, ⟨_, rfl, rfl⟩, hS, fun _ _ => rfl⟩
        | k_ + 2, h_ => exact absurd h_ (by simp)
      rintro _ a X18 h1 h2 h3 h4 hS
      clear BB
      clear FA2
      clear FM2
      replace hS : Below U.heap.size U X18 ∧ (AS U V X18 m x (updX y2 i v54) nn (updD dd2 i 1) fx (updG fy2 i (catI (nn i + dd2 i) (fy2 i) (fun _ => -2000 - (i : Int)))) gl C) ∧ (X18.ownsRow bm 23 1 (.slice (some ⟨gm, 0, none⟩) m m) m (lL z m)) := hS
      obtain ⟨BB, FA2, FM2⟩ := hS
      replace t0 := (h3 0 (by decide)).trans t0
      replace t6 := (h3 6 (by decide)).trans t6
      replace t40 := (h3 40 (by decide)).trans t40
      replace t41 := (h3 41 (by decide)).trans t41
      replace t42 := (h3 42 (by decide)).trans t42
      replace t7 := (h3 7 (by decide)).trans t7
      replace t9 := (h3 9 (by decide)).trans t9
      replace t48 : a.eval (.tmp 48) = .int .i64 ((c + 1 : Nat) : Int) := h4 1 _ rfl _ rfl
      replace A := (⟨h1, h2.trans A.2⟩ : a.tmps.size = 136 ∧ a.defers = [])
      clear h1 h2 h3 h4
      exact ⟨⟨c + 1, _, _, _, ltc, by rw [updD_at, hd2], fun t ht hti => by rw [updD_o hti]; exact hd8 t ht hti, fun t hti => (if_neg hti).trans (hyy t hti), grow_fy hfy, A, t0, t6, t40, t41, t42, t7, t9, t48, BB, FA2, FM2⟩, by show 8 - (intOf (a.eval (.tmp 48))).toNat < 8 - (intOf (Act.eval _ (.tmp 48))).toNat; rw [t48, esc]; show 8 - (c + 1) < 8 - c; omega⟩
    · rw [decide_eq_false ltc] at t49
      refine wp_cond_false t49 ?_
      refine wp_exit ?_
      first | refine exit_in ?_ | refine exit_then (exit_in ?_) | refine exit_then (exit_then (exit_in ?_))
      clear t49 esc
      obtain rfl : c = 8 := by omega
      clear t48 ltc hc
      refine wp_region_sq (σ := Unit) 136 [(0, 56), (1, 57), (2, 58), (3, 59)] (fun j_ s X => match j_ with | 0 => Below U.heap.size U X ∧ (AS U V X m x y2 nn dd2 fx fy2 gl C) ∧ (X.ownsRow bm 23 1 (.slice (some ⟨gm, 0, none⟩) m m) m (lL z m)) | 1 => Below U.heap.size U X ∧ (AS U V X m x y2 nn dd2 fx fy2 gl C) ∧ (X.ownsRow bm 23 1 (.slice (some ⟨gm, 0, none⟩) m m) m (lL z m)) | 2 => Below U.heap.size U X ∧ (AS U V X m x y2 nn dd2 fx fy2 gl C) ∧ (X.ownsRow bm 23 1 (.slice (some ⟨gm, 0, none⟩) m m) m (lL z m)) | 3 => Below U.heap.size U X ∧ (AS U V X m x y2 nn dd2 fx fy2 gl C) ∧ (X.ownsRow bm 23 1 (.slice (some ⟨gm, 0, none⟩) m m) m (lL z m)) | 4 => Below U.heap.size U X ∧ (AS U V X m x y2 nn dd2 fx fy2 gl C) ∧ (X.ownsRow bm 23 1 (.slice (some ⟨gm, 0, none⟩) m m) m (lL z m)) | _ => Below U.heap.size U X ∧ (AS U V X m x y2 nn dd2 fx fy2 gl C) ∧ (X.ownsRow bm 23 1 (.slice (some ⟨gm, 0, none⟩) m m) m (lL (updX z i (y2 i)) m))) (fun s => fun i_ => match i_ with | 0 => .slice (some ⟨gm, 0, none⟩) m m | 1 => .int .i64 ((i : Nat) : Int) | 2 => y2 i | 3 => .pointer (some ⟨gm, 0 + i, none⟩) | 4 => undef | _ => undef) () A.1 (by kernel_rfl) (by decide) (by decide) ⟨BB, FA, FM⟩ ?_ ?_
      · intro i_ hi_ s a X hf hv hn hS
        match i_, hi_ with
        | 0, _ => exact stepV rfl rfl (execMvB rfl ((hf 6 (by decide)).trans t6)) ⟨s, ⟨_, rfl, rfl⟩, hS, fun _ _ => rfl⟩
        | 1, _ => exact stepV rfl rfl (execMvB rfl ((hf 7 (by decide)).trans t7)) ⟨s, ⟨_, rfl, rfl⟩, hS, fun _ _ => rfl⟩
        | 2, _ => exact stepV rfl rfl (execMvB rfl ((hf 9 (by decide)).trans t9)) ⟨s, ⟨_, rfl, rfl⟩, hS, fun _ _ => rfl⟩
        | 3, _ => exact stepV rfl rfl (execIdxLI (k := i) rfl (hv 0 (by omega) _ rfl _ rfl) (hv 1 (by omega) _ rfl _ rfl) lti) ⟨s, ⟨_, rfl, rfl⟩, hS, fun _ _ => rfl⟩
        | 4, _ =>
          obtain ⟨cu_, hg_, hgB_⟩ := own_cur hS.2.2
          refine stepS rfl rfl (execStLI rfl (hv 3 (by omega) _ rfl _ rfl) (hv 2 (by omega) _ rfl _ rfl) (shp3 (hS.2.1.gp.ry i lti)) (ownL_cellI hS.2.2 lti) (frozen4 hg_)) ⟨s, ⟨_, rfl, rfl⟩, ⟨(hS.1).setCell (Nat.le_trans hbU hgB_) _, hS.2.1.setM hg_ (by omega) (Nat.le_trans hbU hgB_) (Nat.le_trans hbV hgB_), ownL_setI hS.2.2⟩, fun i hi => ?_⟩
          match i, hi with
          | 0, _ => rfl
          | 1, _ => rfl
          | 2, _ => rfl
          | 3, _ => rfl
          | n_ + 4, h_ => omega
        | k_ + 5, h_ => exact absurd h_ (by simp)
      rintro _ a X19 h1 h2 h3 h4 hS
      clear BB
      clear FA
      clear FM
      replace hS : Below U.heap.size U X19 ∧ (AS U V X19 m x y2 nn dd2 fx fy2 gl C) ∧ (X19.ownsRow bm 23 1 (.slice (some ⟨gm, 0, none⟩) m m) m (lL (updX z i (y2 i)) m)) := hS
      obtain ⟨BB, FA3, FM3⟩ := hS
      replace t0 := (h3 0 (by decide)).trans t0
      replace t6 := (h3 6 (by decide)).trans t6
      replace t40 := (h3 40 (by decide)).trans t40
      replace t41 := (h3 41 (by decide)).trans t41
      replace t42 := (h3 42 (by decide)).trans t42
      replace A := (⟨h1, h2.trans A.2⟩ : a.tmps.size = 136 ∧ a.defers = [])
      clear h1 h2 h3 h4
      clear t7 t9
      refine wp_region_sq (σ := Unit) 136 [(0, 60), (1, 42)] (fun j_ s X => match j_ with | 0 => Below U.heap.size U X ∧ (AS U V X m x y2 nn dd2 fx fy2 gl C) ∧ (X.ownsRow bm 23 1 (.slice (some ⟨gm, 0, none⟩) m m) m (lL (updX z i (y2 i)) m)) | 1 => Below U.heap.size U X ∧ (AS U V X m x y2 nn dd2 fx fy2 gl C) ∧ (X.ownsRow bm 23 1 (.slice (some ⟨gm, 0, none⟩) m m) m (lL (updX z i (y2 i)) m)) | _ => Below U.heap.size U X ∧ (AS U V X m x y2 nn dd2 fx fy2 gl C) ∧ (X.ownsRow bm 23 1 (.slice (some ⟨gm, 0, none⟩) m m) m (lL (updX z i (y2 i)) m))) (fun s => fun i_ => match i_ with | 0 => .int .i64 ((i + 1 : Nat) : Int) | 1 => .int .i64 ((i + 1 : Nat) : Int) | _ => undef) () A.1 (by kernel_rfl) (by decide) (by decide) ⟨BB, FA3, FM3⟩ ?_ ?_
      · intro i_ hi_ s a X hf hv hn hS
        match i_, hi_ with
        | 0, _ => exact stepV rfl rfl (execAd8 (p := i) (q := 1) rfl ((hn 1 (by omega) _ rfl _ rfl).trans t42) rfl (by omega)) ⟨s, ⟨_, rfl, rfl⟩, hS, fun _ _ => rfl⟩
        | 1, _ => exact stepV rfl rfl (execMvB rfl (hv 0 (by omega) _ rfl _ rfl)) ⟨s, ⟨_, rfl, rfl⟩, hS, fun _ _ => rfl⟩
        | k_ + 2, h_ => exact absurd h_ (by simp)
      rintro _ a X20 h1 h2 h3 h4 hS
      clear BB
      clear FA3
      clear FM3
      replace hS : Below U.heap.size U X20 ∧ (AS U V X20 m x y2 nn dd2 fx fy2 gl C) ∧ (X20.ownsRow bm 23 1 (.slice (some ⟨gm, 0, none⟩) m m) m (lL (updX z i (y2 i)) m)) := hS
      obtain ⟨BB, FA3, FM3⟩ := hS
      replace t0 := (h3 0 (by decide)).trans t0
      replace t6 := (h3 6 (by decide)).trans t6
      replace t40 := (h3 40 (by decide)).trans t40
      replace t41 := (h3 41 (by decide)).trans t41
      replace t42 : a.eval (.tmp 42) = .int .i64 ((i + 1 : Nat) : Int) := h4 1 _ rfl _ rfl
      replace A := (⟨h1, h2.trans A.2⟩ : a.tmps.size = 136 ∧ a.defers = [])
      clear h1 h2 h3 h4
      exact ⟨⟨i + 1, _, _, _, _, lti, next_z hz hyy, next_d hd8o hd2 hd8 lti, fun t h1 ht => ⟨(hyy t (by omega)).trans (hyx t (by omega) ht).1, (hd8 t ht (by omega)).trans (hyx t (by omega) ht).2⟩, hfy, A, t0, t6, t40, t41, t42, BB, FA3, FM3⟩, by show m - (intOf (a.eval (.tmp 42))).toNat < m - (intOf (Act.eval _ (.tmp 42))).toNat; rw [t42, esi]; show m - (i + 1) < m - i; omega⟩
  · rw [decide_eq_false lti] at t43
    refine wp_cond_false t43 ?_
    refine wp_exit ?_
    first | refine exit_in ?_ | refine exit_then (exit_in ?_) | refine exit_then (exit_then (exit_in ?_))
    clear t43 esi
    obtain rfl : i = m := by omega
    exact apart21 U V i gl cl x nn C hm hC hnn _ y z dd fx fy gm bm hbl hbU hbV hfx hfy hd8 hz BB FA FM a A t0 t6
set_option maxRecDepth 100000 in
set_option maxHeartbeats 4000000 in
/-- The law's apart: lists apart are found apart; only they are written. -/
theorem apart_any (U V : World) (m gl cl : Nat) (x : Nat → Value) (nn : Nat → Nat) (C : Array Value) (hm : m ≤ 1000) (hC : ∀ t, t < m → C[t]? = some (x t)) (hnn : ∀ t, t < m → nn t ≤ 17592186044000) (ff : Nat → Nat → Int) (BB : Below U.heap.size U V) (hfam : FmI U.heap.size m x nn ff V) (hli : V.heap[gl]? = some (.cells C 23)) :
    Calls Try.prog 15 #[.slice (some ⟨gl, 0, none⟩) m cl] V fun e w' => e = .returned (.bool true) ∧ Saved (GxI m x) V w' ∧ Below U.heap.size U w' := by
  go_enter Try.func15, Try.ntmps15
  refine wp_seq ?_
  refine wp_region_sqK 136 [(0, 2)] (fun i_ => match i_ with | 0 => .bool false | _ => undef) rfl (by kernel_rfl) (by decide) (by decide) ?_ ?_
  · intro i_ hi_ a hf hv hn
    match i_, hi_ with
    | 0, _ => exact stepV rfl rfl (execAsgB rfl rfl) ⟨⟨_, rfl, rfl⟩, rfl⟩
    | k_ + 1, h_ => exact absurd h_ (by simp)
  intro a h1 h2 h3 h4
  have t0 : a.eval (.tmp 0) = .slice (some ⟨gl, 0, none⟩) m cl := (h3 0 (by decide)).trans rfl
  have A : a.tmps.size = 136 ∧ a.defers = [] := ⟨h1, h2⟩
  have BW : Below V.heap.size V V := Below.refl _ _
  clear h1 h2 h3 h4
  clear BW
  have F0 : A0 U V V m x nn ff gl C := ⟨BB, hfam, hli, Saved.refl _ _⟩
  refine wp_seq ?_
  refine wp_seq ?_
  refine wp_region_sq (σ := Unit) 136 [(0, 18), (1, 19), (2, 20)] (fun j_ s X => match j_ with | 0 => Below U.heap.size U X ∧ (A0 U V X m x nn ff gl C) | 1 => Below U.heap.size U X ∧ (A0 U V X m x nn ff gl C) | 2 => Below U.heap.size U X ∧ (A0 U V X m x nn ff gl C) | _ => Below U.heap.size U X ∧ (A0 U V X m x nn ff gl C)) (fun s => fun i_ => match i_ with | 0 => .slice (some ⟨gl, 0, none⟩) m cl | 1 => .int .i64 ((m : Nat) : Int) | 2 => .int .i64 ((0 : Nat) : Int) | _ => undef) () A.1 (by kernel_rfl) (by decide) (by decide) ⟨BB, F0⟩ ?_ ?_
  · intro i_ hi_ s a X hf hv hn hS
    match i_, hi_ with
    | 0, _ => exact stepV rfl rfl (execMvB rfl ((hf 0 (by decide)).trans t0)) ⟨s, ⟨_, rfl, rfl⟩, hS, fun _ _ => rfl⟩
    | 1, _ => exact stepV rfl rfl (execLenLI (len := m) rfl (hv 0 (by omega) _ rfl _ rfl) ⟨_, _, rfl⟩) ⟨s, ⟨_, rfl, rfl⟩, hS, fun _ _ => rfl⟩
    | 2, _ => exact stepV rfl rfl (execMvB rfl rfl) ⟨s, ⟨_, rfl, rfl⟩, hS, fun _ _ => rfl⟩
    | k_ + 3, h_ => exact absurd h_ (by simp)
  rintro _ a X1 h1 h2 h3 h4 hS
  clear BB
  clear F0
  replace hS : Below U.heap.size U X1 ∧ (A0 U V X1 m x nn ff gl C) := hS
  obtain ⟨BB, F0⟩ := hS
  replace t0 := (h3 0 (by decide)).trans t0
  have t18 : a.eval (.tmp 18) = .slice (some ⟨gl, 0, none⟩) m cl := h4 0 _ rfl _ rfl
  have t19 : a.eval (.tmp 19) = .int .i64 ((m : Nat) : Int) := h4 1 _ rfl _ rfl
  have t20 : a.eval (.tmp 20) = .int .i64 ((0 : Nat) : Int) := h4 2 _ rfl _ rfl
  replace A := (⟨h1, h2.trans A.2⟩ : a.tmps.size = 136 ∧ a.defers = [])
  clear h1 h2 h3 h4
  refine wp_block ?_
  refine wp_loop (fun a W => ∃ (i : Nat) (f1 : Nat → Nat → Int), i ≤ m ∧ (∀ s, s < i → ∀ l, l < nn s → f1 s l = -1000 - (s : Int)) ∧ (a.tmps.size = 136 ∧ a.defers = []) ∧ a.eval (.tmp 0) = .slice (some ⟨gl, 0, none⟩) m cl ∧ a.eval (.tmp 18) = .slice (some ⟨gl, 0, none⟩) m cl ∧ a.eval (.tmp 19) = .int .i64 ((m : Nat) : Int) ∧ a.eval (.tmp 20) = .int .i64 ((i : Nat) : Int) ∧ Below U.heap.size U W ∧ (A0 U V W m x nn f1 gl C)) (fun a _ => m - (intOf (a.eval (.tmp 20))).toNat) ⟨0, ff, Nat.zero_le _, fun s hs => absurd hs (Nat.not_lt_zero _), A, t0, t18, t19, t20, BB, F0⟩ ?_
  clear A t0 t18 t19 t20 BB F0 a
  rintro a XL2 ⟨i, f1, hi, hmk, A, t0, t18, t19, t20, BB, F0⟩
  have esi := t20
  refine wp_seq ?_
  refine wp_region_sq (σ := Unit) 136 [(0, 21)] (fun j_ s X => match j_ with | 0 => Below U.heap.size U X ∧ (A0 U V X m x nn f1 gl C) | _ => Below U.heap.size U X ∧ (A0 U V X m x nn f1 gl C)) (fun s => fun i_ => match i_ with | 0 => .bool (decide (i < m)) | _ => undef) () A.1 (by kernel_rfl) (by decide) (by decide) ⟨BB, F0⟩ ?_ ?_
  · intro i_ hi_ s a X hf hv hn hS
    match i_, hi_ with
    | 0, _ => exact stepV rfl rfl (execLtW (p := i) (q := m) rfl ((hf 20 (by decide)).trans t20) ((hf 19 (by decide)).trans t19)) ⟨s, ⟨_, rfl, rfl⟩, hS, fun _ _ => rfl⟩
    | k_ + 1, h_ => exact absurd h_ (by simp)
  rintro _ a X2 h1 h2 h3 h4 hS
  clear BB
  clear F0
  replace hS : Below U.heap.size U X2 ∧ (A0 U V X2 m x nn f1 gl C) := hS
  obtain ⟨BB, F0⟩ := hS
  replace t0 := (h3 0 (by decide)).trans t0
  replace t18 := (h3 18 (by decide)).trans t18
  replace t19 := (h3 19 (by decide)).trans t19
  replace t20 := (h3 20 (by decide)).trans t20
  have t21 : a.eval (.tmp 21) = .bool (decide (i < m)) := h4 0 _ rfl _ rfl
  replace A := (⟨h1, h2.trans A.2⟩ : a.tmps.size = 136 ∧ a.defers = [])
  clear h1 h2 h3 h4
  refine wp_seq ?_
  by_cases lti : i < m
  · rw [decide_eq_true lti] at t21
    refine wp_cond_true t21 ?_
    refine wp_skip ?_
    clear t21
    refine wp_seq ?_
    refine wp_block ?_
    have hni := hnn i lti
    refine wp_seq ?_
    refine wp_region_sq (σ := Unit) 136 [(0, 22), (1, 23), (2, 24), (3, 3), (4, 4)] (fun j_ s X => match j_ with | 0 => Below U.heap.size U X ∧ (A0 U V X m x nn f1 gl C) | 1 => Below U.heap.size U X ∧ (A0 U V X m x nn f1 gl C) | 2 => Below U.heap.size U X ∧ (A0 U V X m x nn f1 gl C) | 3 => Below U.heap.size U X ∧ (A0 U V X m x nn f1 gl C) | 4 => Below U.heap.size U X ∧ (A0 U V X m x nn f1 gl C) | _ => Below U.heap.size U X ∧ (A0 U V X m x nn f1 gl C)) (fun s => fun i_ => match i_ with | 0 => .int .i64 ((i : Nat) : Int) | 1 => .pointer (some ⟨gl, 0 + i, none⟩) | 2 => x i | 3 => .int .i64 ((i : Nat) : Int) | 4 => x i | _ => undef) () A.1 (by kernel_rfl) (by decide) (by decide) ⟨BB, F0⟩ ?_ ?_
    · intro i_ hi_ s a X hf hv hn hS
      match i_, hi_ with
      | 0, _ => exact stepV rfl rfl (execMvB rfl ((hf 20 (by decide)).trans t20)) ⟨s, ⟨_, rfl, rfl⟩, hS, fun _ _ => rfl⟩
      | 1, _ => exact stepV rfl rfl (execIdxLI (k := i) rfl ((hf 18 (by decide)).trans t18) ((hf 20 (by decide)).trans t20) lti) ⟨s, ⟨_, rfl, rfl⟩, hS, fun _ _ => rfl⟩
      | 2, _ => exact stepV rfl rfl (execLdLI (v := x i) rfl (hv 1 (by omega) _ rfl _ rfl) (hS.2.cell (hC i lti))) ⟨s, ⟨_, rfl, rfl⟩, hS, fun _ _ => rfl⟩
      | 3, _ => exact stepV rfl rfl (execAsgB rfl (hv 0 (by omega) _ rfl _ rfl)) ⟨s, ⟨_, rfl, rfl⟩, hS, fun _ _ => rfl⟩
      | 4, _ => exact stepV rfl rfl (execAsgB rfl (hv 2 (by omega) _ rfl _ rfl)) ⟨s, ⟨_, rfl, rfl⟩, hS, fun _ _ => rfl⟩
      | k_ + 5, h_ => exact absurd h_ (by simp)
    rintro _ a X3 h1 h2 h3 h4 hS
    clear BB
    clear F0
    replace hS : Below U.heap.size U X3 ∧ (A0 U V X3 m x nn f1 gl C) := hS
    obtain ⟨BB, F0⟩ := hS
    replace t0 := (h3 0 (by decide)).trans t0
    replace t18 := (h3 18 (by decide)).trans t18
    replace t19 := (h3 19 (by decide)).trans t19
    replace t20 := (h3 20 (by decide)).trans t20
    have t3 : a.eval (.tmp 3) = .int .i64 ((i : Nat) : Int) := h4 3 _ rfl _ rfl
    have t4 : a.eval (.tmp 4) = x i := h4 4 _ rfl _ rfl
    replace A := (⟨h1, h2.trans A.2⟩ : a.tmps.size = 136 ∧ a.defers = [])
    clear h1 h2 h3 h4
    refine wp_seq ?_
    refine wp_region_sq (σ := Unit) 136 [(0, 25), (1, 26), (2, 27)] (fun j_ s X => match j_ with | 0 => Below U.heap.size U X ∧ (A0 U V X m x nn f1 gl C) | 1 => Below U.heap.size U X ∧ (A0 U V X m x nn f1 gl C) | 2 => Below U.heap.size U X ∧ (A0 U V X m x nn f1 gl C) | _ => Below U.heap.size U X ∧ (A0 U V X m x nn f1 gl C)) (fun s => fun i_ => match i_ with | 0 => x i | 1 => .int .i64 ((nn i : Nat) : Int) | 2 => .int .i64 ((0 : Nat) : Int) | _ => undef) () A.1 (by kernel_rfl) (by decide) (by decide) ⟨BB, F0⟩ ?_ ?_
    · intro i_ hi_ s a X hf hv hn hS
      match i_, hi_ with
      | 0, _ => exact stepV rfl rfl (execMvB rfl ((hf 4 (by decide)).trans t4)) ⟨s, ⟨_, rfl, rfl⟩, hS, fun _ _ => rfl⟩
      | 1, _ => exact stepV rfl rfl (execLenI (len := nn i) rfl (hv 0 (by omega) _ rfl _ rfl) (shpO (hS.2.fam.rows i lti))) ⟨s, ⟨_, rfl, rfl⟩, hS, fun _ _ => rfl⟩
      | 2, _ => exact stepV rfl rfl (execMvB rfl rfl) ⟨s, ⟨_, rfl, rfl⟩, hS, fun _ _ => rfl⟩
      | k_ + 3, h_ => exact absurd h_ (by simp)
    rintro _ a X4 h1 h2 h3 h4 hS
    clear BB
    clear F0
    replace hS : Below U.heap.size U X4 ∧ (A0 U V X4 m x nn f1 gl C) := hS
    obtain ⟨BB, F0⟩ := hS
    replace t0 := (h3 0 (by decide)).trans t0
    replace t18 := (h3 18 (by decide)).trans t18
    replace t19 := (h3 19 (by decide)).trans t19
    replace t20 := (h3 20 (by decide)).trans t20
    replace t3 := (h3 3 (by decide)).trans t3
    replace t4 := (h3 4 (by decide)).trans t4
    have t26 : a.eval (.tmp 26) = .int .i64 ((nn i : Nat) : Int) := h4 1 _ rfl _ rfl
    have t27 : a.eval (.tmp 27) = .int .i64 ((0 : Nat) : Int) := h4 2 _ rfl _ rfl
    replace A := (⟨h1, h2.trans A.2⟩ : a.tmps.size = 136 ∧ a.defers = [])
    clear h1 h2 h3 h4
    refine wp_block ?_
    refine wp_loop (fun a W => ∃ (j : Nat) (f2 : Nat → Nat → Int), j ≤ nn i ∧ (∀ s, s < i → ∀ l, l < nn s → f2 s l = -1000 - (s : Int)) ∧ (∀ l, l < j → f2 i l = -1000 - (i : Int)) ∧ (a.tmps.size = 136 ∧ a.defers = []) ∧ a.eval (.tmp 0) = .slice (some ⟨gl, 0, none⟩) m cl ∧ a.eval (.tmp 18) = .slice (some ⟨gl, 0, none⟩) m cl ∧ a.eval (.tmp 19) = .int .i64 ((m : Nat) : Int) ∧ a.eval (.tmp 20) = .int .i64 ((i : Nat) : Int) ∧ a.eval (.tmp 3) = .int .i64 ((i : Nat) : Int) ∧ a.eval (.tmp 4) = x i ∧ a.eval (.tmp 26) = .int .i64 ((nn i : Nat) : Int) ∧ a.eval (.tmp 27) = .int .i64 ((j : Nat) : Int) ∧ Below U.heap.size U W ∧ (A0 U V W m x nn f2 gl C)) (fun a _ => nn i - (intOf (a.eval (.tmp 27))).toNat) ⟨0, f1, Nat.zero_le _, hmk, fun l hl => absurd hl (Nat.not_lt_zero _), A, t0, t18, t19, t20, t3, t4, t26, t27, BB, F0⟩ ?_
    clear A t0 t18 t19 t20 t3 t4 t26 t27 BB F0 a
    rintro a XL5 ⟨j, f2, hj, hmk, hin, A, t0, t18, t19, t20, t3, t4, t26, t27, BB, F0⟩
    have esj := t27
    refine wp_seq ?_
    refine wp_region_sq (σ := Unit) 136 [(0, 28)] (fun j_ s X => match j_ with | 0 => Below U.heap.size U X ∧ (A0 U V X m x nn f2 gl C) | _ => Below U.heap.size U X ∧ (A0 U V X m x nn f2 gl C)) (fun s => fun i_ => match i_ with | 0 => .bool (decide (j < nn i)) | _ => undef) () A.1 (by kernel_rfl) (by decide) (by decide) ⟨BB, F0⟩ ?_ ?_
    · intro i_ hi_ s a X hf hv hn hS
      match i_, hi_ with
      | 0, _ => exact stepV rfl rfl (execLtW (p := j) (q := nn i) rfl ((hf 27 (by decide)).trans t27) ((hf 26 (by decide)).trans t26)) ⟨s, ⟨_, rfl, rfl⟩, hS, fun _ _ => rfl⟩
      | k_ + 1, h_ => exact absurd h_ (by simp)
    rintro _ a X5 h1 h2 h3 h4 hS
    clear BB
    clear F0
    replace hS : Below U.heap.size U X5 ∧ (A0 U V X5 m x nn f2 gl C) := hS
    obtain ⟨BB, F0⟩ := hS
    replace t0 := (h3 0 (by decide)).trans t0
    replace t18 := (h3 18 (by decide)).trans t18
    replace t19 := (h3 19 (by decide)).trans t19
    replace t20 := (h3 20 (by decide)).trans t20
    replace t3 := (h3 3 (by decide)).trans t3
    replace t4 := (h3 4 (by decide)).trans t4
    replace t26 := (h3 26 (by decide)).trans t26
    replace t27 := (h3 27 (by decide)).trans t27
    have t28 : a.eval (.tmp 28) = .bool (decide (j < nn i)) := h4 0 _ rfl _ rfl
    replace A := (⟨h1, h2.trans A.2⟩ : a.tmps.size = 136 ∧ a.defers = [])
    clear h1 h2 h3 h4
    refine wp_seq ?_
    by_cases ltj : j < nn i
    · rw [decide_eq_true ltj] at t28
      refine wp_cond_true t28 ?_
      refine wp_skip ?_
      clear t28
      refine wp_seq ?_
      refine wp_block ?_
      obtain ⟨gx, cx, ex, _, _⟩ := ownL_some9 (F0.fam.rows i lti) (by omega)
      refine wp_seq ?_
      refine wp_region_sq (σ := Unit) 136 [(0, 29), (1, 5)] (fun j_ s X => match j_ with | 0 => Below U.heap.size U X ∧ (A0 U V X m x nn f2 gl C) | 1 => Below U.heap.size U X ∧ (A0 U V X m x nn f2 gl C) | _ => Below U.heap.size U X ∧ (A0 U V X m x nn f2 gl C)) (fun s => fun i_ => match i_ with | 0 => .int .i64 ((j : Nat) : Int) | 1 => .int .i64 ((j : Nat) : Int) | _ => undef) () A.1 (by kernel_rfl) (by decide) (by decide) ⟨BB, F0⟩ ?_ ?_
      · intro i_ hi_ s a X hf hv hn hS
        match i_, hi_ with
        | 0, _ => exact stepV rfl rfl (execMvB rfl ((hf 27 (by decide)).trans t27)) ⟨s, ⟨_, rfl, rfl⟩, hS, fun _ _ => rfl⟩
        | 1, _ => exact stepV rfl rfl (execAsgB rfl (hv 0 (by omega) _ rfl _ rfl)) ⟨s, ⟨_, rfl, rfl⟩, hS, fun _ _ => rfl⟩
        | k_ + 2, h_ => exact absurd h_ (by simp)
      rintro _ a X6 h1 h2 h3 h4 hS
      clear BB
      clear F0
      replace hS : Below U.heap.size U X6 ∧ (A0 U V X6 m x nn f2 gl C) := hS
      obtain ⟨BB, F0⟩ := hS
      replace t0 := (h3 0 (by decide)).trans t0
      replace t18 := (h3 18 (by decide)).trans t18
      replace t19 := (h3 19 (by decide)).trans t19
      replace t20 := (h3 20 (by decide)).trans t20
      replace t3 := (h3 3 (by decide)).trans t3
      replace t4 := (h3 4 (by decide)).trans t4
      replace t26 := (h3 26 (by decide)).trans t26
      replace t27 := (h3 27 (by decide)).trans t27
      have t5 : a.eval (.tmp 5) = .int .i64 ((j : Nat) : Int) := h4 1 _ rfl _ rfl
      replace A := (⟨h1, h2.trans A.2⟩ : a.tmps.size = 136 ∧ a.defers = [])
      clear h1 h2 h3 h4
      refine wp_region_sq (σ := Unit) 136 [(0, 30), (1, 31), (2, 32), (3, 33), (4, 34)] (fun j_ s X => match j_ with | 0 => Below U.heap.size U X ∧ (A0 U V X m x nn f2 gl C) | 1 => Below U.heap.size U X ∧ (A0 U V X m x nn f2 gl C) | 2 => Below U.heap.size U X ∧ (A0 U V X m x nn f2 gl C) | 3 => Below U.heap.size U X ∧ (A0 U V X m x nn f2 gl C) | 4 => Below U.heap.size U X ∧ (A0 U V X m x nn f2 gl C) | 5 => Below U.heap.size U X ∧ (A0 U V X m x nn f2 gl C) | _ => Below U.heap.size U X ∧ (A0 U V X m x nn (updF f2 i j (-1000 - (i : Int))) gl C)) (fun s => fun i_ => match i_ with | 0 => x i | 1 => .int .i64 ((j : Nat) : Int) | 2 => .int .i64 ((i : Nat) : Int) | 3 => .int .i64 (-1000 - (i : Int)) | 4 => .pointer (some ⟨gx, 0 + j, none⟩) | 5 => undef | _ => undef) () A.1 (by kernel_rfl) (by decide) (by decide) ⟨BB, F0⟩ ?_ ?_
      · intro i_ hi_ s a X hf hv hn hS
        match i_, hi_ with
        | 0, _ => exact stepV rfl rfl (execMvB rfl ((hf 4 (by decide)).trans t4)) ⟨s, ⟨_, rfl, rfl⟩, hS, fun _ _ => rfl⟩
        | 1, _ => exact stepV rfl rfl (execMvB rfl ((hf 5 (by decide)).trans t5)) ⟨s, ⟨_, rfl, rfl⟩, hS, fun _ _ => rfl⟩
        | 2, _ => exact stepV rfl rfl (execMvB rfl ((hf 3 (by decide)).trans t3)) ⟨s, ⟨_, rfl, rfl⟩, hS, fun _ _ => rfl⟩
        | 3, _ => exact stepV rfl rfl (execSubIg (p := -1000) (q := (i : Int)) (z := -1000 - (i : Int)) rfl rfl (hv 2 (by omega) _ rfl _ rfl) rfl (by omega) (by omega)) ⟨s, ⟨_, rfl, rfl⟩, hS, fun _ _ => rfl⟩
        | 4, _ => exact stepV rfl rfl (execIdxN (k := j) rfl ((hv 0 (by omega) _ rfl _ rfl).trans ex) (hv 1 (by omega) _ rfl _ rfl) ltj) ⟨s, ⟨_, rfl, rfl⟩, hS, fun _ _ => rfl⟩
        | 5, _ =>
          obtain ⟨hc_, hf_⟩ := hS.2.fam.cell lti ex ltj
          refine stepS rfl rfl (execStI9 rfl (hv 4 (by omega) _ rfl _ rfl) (hv 3 (by omega) _ rfl _ rfl) hc_ hf_) ⟨s, ⟨_, rfl, rfl⟩, ⟨(hS.2.set (j := j) lti ex _).bel, hS.2.set (j := j) lti ex _⟩, fun i hi => ?_⟩
          match i, hi with
          | 0, _ => rfl
          | 1, _ => rfl
          | 2, _ => rfl
          | 3, _ => rfl
          | 4, _ => rfl
          | n_ + 5, h_ => omega
        | k_ + 6, h_ => exact absurd h_ (by simp)
      rintro _ a X7 h1 h2 h3 h4 hS
      clear BB
      clear F0
      replace hS : Below U.heap.size U X7 ∧ (A0 U V X7 m x nn (updF f2 i j (-1000 - (i : Int))) gl C) := hS
      obtain ⟨BB, F02⟩ := hS
      replace t0 := (h3 0 (by decide)).trans t0
      replace t18 := (h3 18 (by decide)).trans t18
      replace t19 := (h3 19 (by decide)).trans t19
      replace t20 := (h3 20 (by decide)).trans t20
      replace t3 := (h3 3 (by decide)).trans t3
      replace t4 := (h3 4 (by decide)).trans t4
      replace t26 := (h3 26 (by decide)).trans t26
      replace t27 := (h3 27 (by decide)).trans t27
      replace A := (⟨h1, h2.trans A.2⟩ : a.tmps.size = 136 ∧ a.defers = [])
      clear h1 h2 h3 h4
      clear t5
      refine wp_region_sq (σ := Unit) 136 [(0, 35), (1, 27)] (fun j_ s X => match j_ with | 0 => Below U.heap.size U X ∧ (A0 U V X m x nn (updF f2 i j (-1000 - (i : Int))) gl C) | 1 => Below U.heap.size U X ∧ (A0 U V X m x nn (updF f2 i j (-1000 - (i : Int))) gl C) | _ => Below U.heap.size U X ∧ (A0 U V X m x nn (updF f2 i j (-1000 - (i : Int))) gl C)) (fun s => fun i_ => match i_ with | 0 => .int .i64 ((j + 1 : Nat) : Int) | 1 => .int .i64 ((j + 1 : Nat) : Int) | _ => undef) () A.1 (by kernel_rfl) (by decide) (by decide) ⟨BB, F02⟩ ?_ ?_
      · intro i_ hi_ s a X hf hv hn hS
        match i_, hi_ with
        | 0, _ => exact stepV rfl rfl (execAd8 (p := j) (q := 1) rfl ((hn 1 (by omega) _ rfl _ rfl).trans t27) rfl (by omega)) ⟨s, ⟨_, rfl, rfl⟩, hS, fun _ _ => rfl⟩
        | 1, _ => exact stepV rfl rfl (execMvB rfl (hv 0 (by omega) _ rfl _ rfl)) ⟨s, ⟨_, rfl, rfl⟩, hS, fun _ _ => rfl⟩
        | k_ + 2, h_ => exact absurd h_ (by simp)
      rintro _ a X8 h1 h2 h3 h4 hS
      clear BB
      clear F02
      replace hS : Below U.heap.size U X8 ∧ (A0 U V X8 m x nn (updF f2 i j (-1000 - (i : Int))) gl C) := hS
      obtain ⟨BB, F02⟩ := hS
      replace t0 := (h3 0 (by decide)).trans t0
      replace t18 := (h3 18 (by decide)).trans t18
      replace t19 := (h3 19 (by decide)).trans t19
      replace t20 := (h3 20 (by decide)).trans t20
      replace t3 := (h3 3 (by decide)).trans t3
      replace t4 := (h3 4 (by decide)).trans t4
      replace t26 := (h3 26 (by decide)).trans t26
      replace t27 : a.eval (.tmp 27) = .int .i64 ((j + 1 : Nat) : Int) := h4 1 _ rfl _ rfl
      replace A := (⟨h1, h2.trans A.2⟩ : a.tmps.size = 136 ∧ a.defers = [])
      clear h1 h2 h3 h4
      exact ⟨⟨j + 1, _, ltj, fun s hs l hl => by rw [updF_o (by omega)]; exact hmk s hs l hl, mark_in hin, A, t0, t18, t19, t20, t3, t4, t26, t27, BB, F02⟩, by show nn i - (intOf (a.eval (.tmp 27))).toNat < nn i - (intOf (Act.eval _ (.tmp 27))).toNat; rw [t27, esj]; show nn i - (j + 1) < nn i - j; omega⟩
    · rw [decide_eq_false ltj] at t28
      refine wp_cond_false t28 ?_
      refine wp_exit ?_
      first | refine exit_in ?_ | refine exit_then (exit_in ?_) | refine exit_then (exit_then (exit_in ?_))
      clear t28 esj
      obtain rfl : j = nn i := by omega
      clear t3 t4 t26 t27 ltj hj
      refine wp_region_sq (σ := Unit) 136 [(0, 36), (1, 20)] (fun j_ s X => match j_ with | 0 => Below U.heap.size U X ∧ (A0 U V X m x nn f2 gl C) | 1 => Below U.heap.size U X ∧ (A0 U V X m x nn f2 gl C) | _ => Below U.heap.size U X ∧ (A0 U V X m x nn f2 gl C)) (fun s => fun i_ => match i_ with | 0 => .int .i64 ((i + 1 : Nat) : Int) | 1 => .int .i64 ((i + 1 : Nat) : Int) | _ => undef) () A.1 (by kernel_rfl) (by decide) (by decide) ⟨BB, F0⟩ ?_ ?_
      · intro i_ hi_ s a X hf hv hn hS
        match i_, hi_ with
        | 0, _ => exact stepV rfl rfl (execAd8 (p := i) (q := 1) rfl ((hn 1 (by omega) _ rfl _ rfl).trans t20) rfl (by omega)) ⟨s, ⟨_, rfl, rfl⟩, hS, fun _ _ => rfl⟩
        | 1, _ => exact stepV rfl rfl (execMvB rfl (hv 0 (by omega) _ rfl _ rfl)) ⟨s, ⟨_, rfl, rfl⟩, hS, fun _ _ => rfl⟩
        | k_ + 2, h_ => exact absurd h_ (by simp)
      rintro _ a X9 h1 h2 h3 h4 hS
      clear BB
      clear F0
      replace hS : Below U.heap.size U X9 ∧ (A0 U V X9 m x nn f2 gl C) := hS
      obtain ⟨BB, F0⟩ := hS
      replace t0 := (h3 0 (by decide)).trans t0
      replace t18 := (h3 18 (by decide)).trans t18
      replace t19 := (h3 19 (by decide)).trans t19
      replace t20 : a.eval (.tmp 20) = .int .i64 ((i + 1 : Nat) : Int) := h4 1 _ rfl _ rfl
      replace A := (⟨h1, h2.trans A.2⟩ : a.tmps.size = 136 ∧ a.defers = [])
      clear h1 h2 h3 h4
      exact ⟨⟨i + 1, f2, lti, mark_next hmk hin, A, t0, t18, t19, t20, BB, F0⟩, by show m - (intOf (a.eval (.tmp 20))).toNat < m - (intOf (Act.eval _ (.tmp 20))).toNat; rw [t20, esi]; show m - (i + 1) < m - i; omega⟩
  · rw [decide_eq_false lti] at t21
    refine wp_cond_false t21 ?_
    refine wp_exit ?_
    first | refine exit_in ?_ | refine exit_then (exit_in ?_) | refine exit_then (exit_then (exit_in ?_))
    clear t21 esi
    obtain rfl : i = m := by omega
    exact apart10 U V i gl cl x nn C hm hC hnn _ f1 hmk BB F0 a A t0
end Go.Proofs.Ytdecmmcphcomhaa.Brd
