import Derived.Test.YtpclecbhfjalnaaH9b
namespace Go.Proofs.Ytpclecbhfjalnaa.Drw
open Go.RowKit Gf8 Aes By8 Cel Cf Tap
/- The program's All. Written by tools/mkH9c.py. -/

theorem own_setT {W : World} {C m s g : Nat} {t u : TypeId} {v : Value} {xs : List Value} {cur c : Array Value} (h : W.ownsRow C t s v m xs) (hg : W.heap[g]? = some (.cells cur u)) (ht : u ≠ t) : (W.setRow g c).ownsRow C t s v m xs := by
  refine ⟨h.1, ?_⟩
  rcases h.2 with h | ⟨g1, cap, cu, e, hB, h1, hr⟩
  · exact Or.inl h
  · refine Or.inr ⟨g1, cap, cu, e, hB, ?_, hr⟩
    rw [setRow_other _ _ _ _ (fun q => ?_)]
    · exact h1
    · subst q
      rw [h1] at hg
      injection hg with hg
      injection hg with _ hg _
      exact ht hg.symm
theorem own_mkZ (W : World) (n : Nat) (f : Nat → Int) (hn : n ≤ 17592186044416) (hf : ∀ j, j < n → f j = 0) : (W.alloc (.cells (madeCells #[.int .i64 0] n) 3)).ownsRow W.heap.size 3 1 (.slice (some ⟨W.heap.size, 0, none⟩) n n) n (intsL n f) := by
  refine ⟨by rw [intsL_len, Nat.mul_one], Or.inr ⟨W.heap.size, n, _, rfl, Nat.le_refl _, heapNew W _, Nat.le_refl _, by unfold maxLen; omega, by simp [madeCells], ?_⟩⟩
  apply List.ext_getElem?
  intro j
  by_cases h : j < n
  · simp [madeCells, intsL, h, hf j h, Nat.mod_one]
  · simp [madeCells, intsL, h]
theorem own_cellI {W : World} {B n g cap j : Nat} {f : Nat → Int} (h : W.ownsRow B 3 1 (.slice (some ⟨g, 0, none⟩) n cap) n (intsL n f)) (hj : j < n) : W.cell? ⟨g, 0 + j, none⟩ = some (.int .i64 (f j)) ∧ W.frozen? ⟨g, 0 + j, none⟩ = false := by
  rw [Nat.zero_add]
  rcases h.2 with ⟨e, _⟩ | ⟨g', cap', cur, e, _, hg, h1, h2, h3, h4⟩
  · cases e
  · injection e with e1 _ _
    injection e1 with e1
    injection e1 with e1 _ _
    subst e1
    refine ⟨?_, frozen4 hg⟩
    rw [cell_of_row _ _ _ _ _ _ hg, ← Array.getElem?_toList]
    have h5 : (cur.toList.take (n * 1))[j]? = some (.int .i64 (f j)) := by rw [h4]; exact intsL_get hj
    rw [List.getElem?_take_of_lt (by omega)] at h5
    exact h5
theorem off_own {W : World} {B n g cap k : Nat} {t u : TypeId} {z : Value} {xs : List Value} {h : Nat} {c : Array Value} (ho : W.ownsRow B t 1 (.slice (some ⟨g, 0, none⟩) n cap) n xs) (hh : W.heap[h]? = some (.cells c u)) (ht : u ≠ t) : (W.setCell ⟨g, k, none⟩ z).heap[h]? = some (.cells c u) := by
  rcases ho.2 with ⟨e, _⟩ | ⟨g', cap', cur, e, _, hg, _⟩
  · cases e
  · injection e with e1 _ _
    injection e1 with e1
    injection e1 with e1 _ _
    subst e1
    rw [heap4o z hg (fun q => ?_)]
    · exact hh
    · subst q
      rw [hg] at hh
      injection hh with hh
      injection hh with _ hh _
      exact ht hh.symm
theorem own_setF {W : World} {B n g cap k : Nat} {f : Nat → Int} (z : Int) (h : W.ownsRow B 3 1 (.slice (some ⟨g, 0, none⟩) n cap) n (intsL n f)) : (W.setCell ⟨g, 0 + k, none⟩ (.int .i64 z)).ownsRow B 3 1 (.slice (some ⟨g, 0, none⟩) n cap) n (intsL n (fun j => if j = k then z else f j)) := by
  rw [Nat.zero_add]
  refine ⟨by rw [intsL_len, Nat.mul_one], ?_⟩
  rcases h.2 with ⟨e, _⟩ | ⟨g', cap', cur, e, hB, hg, h1, h2, h3, h4⟩
  · cases e
  · injection e with e1 e2 e3
    injection e1 with e1
    injection e1 with e1 _ _
    subst e1
    subst e3
    refine Or.inr ⟨g, cap, cur.setIfInBounds k (.int .i64 z), rfl, hB, heap4 _ hg, h1, h2, by simpa using h3, ?_⟩
    apply List.ext_getElem?
    intro j
    have h5 : (cur.toList.take (n * 1))[j]? = (intsL n f)[j]? := by rw [h4]
    by_cases hj : j < n
    · rw [List.getElem?_take_of_lt (by omega), intsL_get hj] at h5
      rw [List.getElem?_take_of_lt (by omega), intsL_get hj, Array.getElem?_toList, Array.getElem?_setIfInBounds]
      by_cases hk : k = j
      · subst hk
        rw [if_pos rfl, if_pos rfl, if_pos (by simp at h3; omega)]
      · rw [if_neg hk, if_neg (fun q => hk q.symm), ← Array.getElem?_toList]
        exact h5
    · rw [List.getElem?_eq_none (by simp; omega), List.getElem?_eq_none (by rw [intsL_len]; omega)]
theorem own_setI {W : World} {B n g cap i l : Nat} {p : Nat → Nat} {bs : Nat → Int} (h : W.ownsRow B 3 1 (.slice (some ⟨g, 0, none⟩) n cap) n (intsL n (fun j => if j < i then (dA p l bs j : Int) else 0))) : (W.setCell ⟨g, 0 + i, none⟩ (.int .i64 ((dV p l (plA p l bs i) (bs i) : Nat) : Int))).ownsRow B 3 1 (.slice (some ⟨g, 0, none⟩) n cap) n (intsL n (fun j => if j < (i + 1) then (dA p l bs j : Int) else 0)) := by
  have h2 := own_setF (k := i) ((dV p l (plA p l bs i) (bs i) : Nat) : Int) h
  rw [intsL_congr (g := fun j => if j < (i + 1) then (dA p l bs j : Int) else 0) (fun j _ => ?_)] at h2
  · exact h2
  · by_cases q : j = i
    · subst q
      rw [if_pos rfl, if_pos (by omega)]
      rfl
    · rw [if_neg q]
      by_cases q2 : j < i
      · rw [if_pos q2, if_pos (by omega)]
      · rw [if_neg q2, if_neg (by omega)]
theorem execStI9 {o : Oper} {a : Act} {w : World} {x y : Operand} {b k : Nat} {z : Int} {old : Value} (ho : o.op = .store 3 x y) (hx : a.eval x = .pointer (some ⟨b, k, none⟩)) (hy : a.eval y = .int .i64 z) (hc : w.cell? ⟨b, k, none⟩ = some old) (hf : w.frozen? ⟨b, k, none⟩ = false) : (execOp a.eval o).run Try.prog w = .ok .skip (w.setCell ⟨b, k, none⟩ (.int .i64 z)) := by
  unfold execOp
  simp only [ho, hx, hy]
  simp [go_sem, hc, hf]
set_option maxRecDepth 100000 in
set_option maxHeartbeats 4000000 in
/-- The program's All. -/
theorem pall_any (p : Nat → Nat) (l : Nat) (bs : Nat → Int) (n : Nat) (pv bv : Value) (V : World) (hp : SliceN V pv l p) (hl : l ≤ 140737488351232) (hb : SliceI V bv n bs) (hn17 : n ≤ 17592186044416) :
    Calls Try.prog 17 #[pv, bv] V fun e w' => ∃ r, e = .returned (.tuple #[r, .int .i64 ((allK p l bs n : Nat) : Int), .int .i64 ((allE p l bs n : Nat) : Int)]) ∧ w'.ownsRow V.heap.size 3 1 r (allN p l bs n) (intsL (allN p l bs n) (fun i => (dA p l bs i : Int))) ∧ Below V.heap.size V w' := by
  obtain ⟨ia, ic, rfl, -, -, hsh⟩ := id hb.shape
  have FI := hb
  have hpb := hp.bytes
  go_enter Try.func17, Try.ntmps17
  refine wp_seq ?_
  refine wp_region_sqK 48 [(0, 4), (1, 5), (2, 6)] (fun i_ => match i_ with | 0 => .slice none 0 0 | 1 => .int .i64 ((0 : Nat) : Int) | 2 => .int .i64 ((0 : Nat) : Int) | _ => undef) rfl (by kernel_rfl) (by decide) (by decide) ?_ ?_
  · intro i_ hi_ a hf hv hn
    match i_, hi_ with
    | 0, _ => exact stepV rfl rfl (execAsgB rfl rfl) ⟨⟨_, rfl, rfl⟩, rfl⟩
    | 1, _ => exact stepV rfl rfl (execAsgB rfl rfl) ⟨⟨_, rfl, rfl⟩, rfl⟩
    | 2, _ => exact stepV rfl rfl (execAsgB rfl rfl) ⟨⟨_, rfl, rfl⟩, rfl⟩
    | k_ + 3, h_ => exact absurd h_ (by simp)
  intro a h1 h2 h3 h4
  have t0 : a.eval (.tmp 0) = pv := (h3 0 (by decide)).trans rfl
  have t1 : a.eval (.tmp 1) = .slice ia n ic := (h3 1 (by decide)).trans rfl
  have A : a.tmps.size = 48 ∧ a.defers = [] := ⟨h1, h2⟩
  have BW : Below V.heap.size V V := Below.refl _ _
  clear h1 h2 h3 h4
  have BB := BW
  refine wp_seq ?_
  refine wp_seq ?_
  by_cases hw : anyB bs n = true
  · have hwr : ∀ X, Below V.heap.size V X → Calls Try.prog 25 #[.slice ia n ic] X fun e w' => e = .returned (.bool false) ∧ Below X.heap.size X w' := fun X hX => by have h_ := areBounds_any bs n _ X (FI.on hX) hn17; rw [hw] at h_; exact h_
    refine wp_region_sq (σ := Unit) 48 [(0, 14), (1, 15), (2, 16)] (fun j_ s X => match j_ with | 0 => Below V.heap.size V X | 1 => Below V.heap.size V X | 2 => Below V.heap.size V X | _ => Below V.heap.size V X) (fun s => fun i_ => match i_ with | 0 => .slice ia n ic | 1 => .bool false | 2 => .bool true | _ => undef) () A.1 (by kernel_rfl) (by decide) (by decide) (BB) ?_ ?_
    · intro i_ hi_ s a X hf hv hn hS
      match i_, hi_ with
      | 0, _ => exact stepV rfl rfl (execMvB rfl ((hf 1 (by decide)).trans t1)) ⟨s, ⟨_, rfl, rfl⟩, hS, fun _ _ => rfl⟩
      | 1, _ => exact stepC rfl rfl (execCall1 Try.func25 (by kernel_rfl) (by kernel_rfl) rfl (hv 0 (by omega) _ rfl _ rfl)) (hwr X hS) fun e w' hh => ⟨_, hh.1, s, ⟨_, rfl, rfl⟩, (hS).trans ((hh.2).mono (hS).size), fun _ _ => rfl⟩
      | 2, _ => exact stepV rfl rfl (execNot8 rfl (hv 1 (by omega) _ rfl _ rfl)) ⟨s, ⟨_, rfl, rfl⟩, hS, fun _ _ => rfl⟩
      | k_ + 3, h_ => exact absurd h_ (by simp)
    rintro _ a X1 h1 h2 h3 h4 hS
    clear BB
    replace hS : Below V.heap.size V X1 := hS
    have BB := hS
    clear hS
    replace t0 := (h3 0 (by decide)).trans t0
    replace t1 := (h3 1 (by decide)).trans t1
    have t16 : a.eval (.tmp 16) = .bool true := h4 2 _ rfl _ rfl
    replace A := (⟨h1, h2.trans A.2⟩ : a.tmps.size = 48 ∧ a.defers = [])
    clear h1 h2 h3 h4
    refine wp_cond_true t16 ?_
    refine wp_seq ?_
    refine wp_region_sq (σ := Unit) 48 [(0, 4), (1, 5), (2, 6)] (fun j_ s X => match j_ with | 0 => Below V.heap.size V X | 1 => Below V.heap.size V X | 2 => Below V.heap.size V X | _ => Below V.heap.size V X) (fun s => fun i_ => match i_ with | 0 => .slice none 0 0 | 1 => .int .i64 ((0 : Nat) : Int) | 2 => .int .i64 ((2 : Nat) : Int) | _ => undef) () A.1 (by kernel_rfl) (by decide) (by decide) (BB) ?_ ?_
    · intro i_ hi_ s a X hf hv hn hS
      match i_, hi_ with
      | 0, _ => exact stepV rfl rfl (execAsgB rfl rfl) ⟨s, ⟨_, rfl, rfl⟩, hS, fun _ _ => rfl⟩
      | 1, _ => exact stepV rfl rfl (execAsgB rfl rfl) ⟨s, ⟨_, rfl, rfl⟩, hS, fun _ _ => rfl⟩
      | 2, _ => exact stepV rfl rfl (execAsgB rfl rfl) ⟨s, ⟨_, rfl, rfl⟩, hS, fun _ _ => rfl⟩
      | k_ + 3, h_ => exact absurd h_ (by simp)
    rintro _ a X2 h1 h2 h3 h4 hS
    clear BB
    replace hS : Below V.heap.size V X2 := hS
    have BB := hS
    clear hS
    have t4 : a.eval (.tmp 4) = .slice none 0 0 := h4 0 _ rfl _ rfl
    have t5 : a.eval (.tmp 5) = .int .i64 ((0 : Nat) : Int) := h4 1 _ rfl _ rfl
    have t6 : a.eval (.tmp 6) = .int .i64 ((2 : Nat) : Int) := h4 2 _ rfl _ rfl
    replace A := (⟨h1, h2.trans A.2⟩ : a.tmps.size = 48 ∧ a.defers = [])
    clear h1 h2 h3 h4
    clear t0 t1
    have hE : allE p l bs n = 2 := by unfold allE; rw [if_pos hw]
    have hN : allN p l bs n = 0 := by unfold allN; rw [if_neg (by rw [hE]; decide)]
    have hK : allK p l bs n = 0 := by unfold allK; rw [if_neg (by rw [hE]; decide)]
    rw [hE, hN, hK]
    refine wp_ret ?_
    repeat (first | refine ret_in ?_ | refine ret_then ?_)
    refine bodyPost_ret (results_tmp3 rfl _ _ _) A.2 ⟨_, ?_, World.ownsRow_nil _ _ _ _, BB⟩
    show Ending.returned (.tuple #[a.eval (.tmp 4), a.eval (.tmp 5), a.eval (.tmp 6)]) = _
    rw [t4, t5, t6]
  · have hwf := Bool.eq_false_iff.2 hw
    have hwr : ∀ X, Below V.heap.size V X → Calls Try.prog 25 #[.slice ia n ic] X fun e w' => e = .returned (.bool true) ∧ Below X.heap.size X w' := fun X hX => by have h_ := areBounds_any bs n _ X (FI.on hX) hn17; rw [hwf] at h_; exact h_
    refine wp_region_sq (σ := Unit) 48 [(0, 14), (1, 15), (2, 16)] (fun j_ s X => match j_ with | 0 => Below V.heap.size V X | 1 => Below V.heap.size V X | 2 => Below V.heap.size V X | _ => Below V.heap.size V X) (fun s => fun i_ => match i_ with | 0 => .slice ia n ic | 1 => .bool true | 2 => .bool false | _ => undef) () A.1 (by kernel_rfl) (by decide) (by decide) (BB) ?_ ?_
    · intro i_ hi_ s a X hf hv hn hS
      match i_, hi_ with
      | 0, _ => exact stepV rfl rfl (execMvB rfl ((hf 1 (by decide)).trans t1)) ⟨s, ⟨_, rfl, rfl⟩, hS, fun _ _ => rfl⟩
      | 1, _ => exact stepC rfl rfl (execCall1 Try.func25 (by kernel_rfl) (by kernel_rfl) rfl (hv 0 (by omega) _ rfl _ rfl)) (hwr X hS) fun e w' hh => ⟨_, hh.1, s, ⟨_, rfl, rfl⟩, (hS).trans ((hh.2).mono (hS).size), fun _ _ => rfl⟩
      | 2, _ => exact stepV rfl rfl (execNot8 rfl (hv 1 (by omega) _ rfl _ rfl)) ⟨s, ⟨_, rfl, rfl⟩, hS, fun _ _ => rfl⟩
      | k_ + 3, h_ => exact absurd h_ (by simp)
    rintro _ a X1 h1 h2 h3 h4 hS
    clear BB
    replace hS : Below V.heap.size V X1 := hS
    have BB := hS
    clear hS
    replace t0 := (h3 0 (by decide)).trans t0
    replace t1 := (h3 1 (by decide)).trans t1
    have t16 : a.eval (.tmp 16) = .bool false := h4 2 _ rfl _ rfl
    replace A := (⟨h1, h2.trans A.2⟩ : a.tmps.size = 48 ∧ a.defers = [])
    clear h1 h2 h3 h4
    refine wp_cond_false t16 ?_
    refine wp_skip ?_
    clear t16
    have hno := anyB_no hwf
    refine wp_seq ?_
    refine wp_region_sq (σ := Nat) 48 [(0, 17), (1, 18), (2, 7)] (fun j_ s X => match j_ with | 0 => Below V.heap.size V X | 1 => Below V.heap.size V X | 2 => Below V.heap.size V X | 3 => Below V.heap.size V X ∧ X.heap[s]? = some (.cells (tpC (fun _ => 0) 0 0) 26) ∧ (V.heap.size ≤ s) | _ => Below V.heap.size V X ∧ (V.heap.size ≤ s) ∧ X.heap[s]? = some (.cells (tpC p l 0) 26)) (fun s => fun i_ => match i_ with | 0 => pv | 1 => .agg (tpC p l 0) | 2 => .pointer (some ⟨s, 0, none⟩) | 3 => undef | _ => undef) 0 A.1 (by kernel_rfl) (by decide) (by decide) (BB) ?_ ?_
    · intro i_ hi_ s a X hf hv hn hS
      match i_, hi_ with
      | 0, _ => exact stepV rfl rfl (execMvB rfl ((hf 0 (by decide)).trans t0)) ⟨s, ⟨_, rfl, rfl⟩, hS, fun _ _ => rfl⟩
      | 1, _ => exact stepC rfl rfl (execCall1 Try.func10 (by kernel_rfl) (by kernel_rfl) rfl (hv 0 (by omega) _ rfl _ rfl)) (new_any p l _ X (hp.on hS)) fun e w' hh => ⟨_, hh.1, s, ⟨_, rfl, rfl⟩, (hS).trans ((hh.2).mono (hS).size), fun _ _ => rfl⟩
      | 2, _ =>
        refine stepV rfl rfl (execAllTp rfl (fun _ => 0)) ⟨X.heap.size, ⟨_, rfl, rfl⟩, ⟨(hS).trans (((belNew X _)).mono (hS).size), heapNew X _, (hS).size⟩, fun i hi => ?_⟩
        match i, hi with
        | 0, _ => rfl
        | 1, _ => rfl
        | n_ + 2, h_ => omega
      | 3, _ => exact stepS rfl rfl (execStTp rfl (hv 2 (by omega) _ rfl _ rfl) (hv 1 (by omega) _ rfl _ rfl) hS.2.1 rfl) ⟨s, ⟨_, rfl, rfl⟩, ⟨below4 hS.1 hS.2.2 _, hS.2.2, setRow_heap _ _ _ _ _ _ hS.2.1⟩, fun _ _ => rfl⟩
      | k_ + 4, h_ => exact absurd h_ (by simp)
    rintro g7 a X3 h1 h2 h3 h4 hS
    clear BB
    replace hS : Below V.heap.size V X3 ∧ (V.heap.size ≤ g7) ∧ X3.heap[g7]? = some (.cells (tpC p l 0) 26) := hS
    obtain ⟨BB, Fge7, F7⟩ := hS
    replace t0 := (h3 0 (by decide)).trans t0
    replace t1 := (h3 1 (by decide)).trans t1
    have t7 : a.eval (.tmp 7) = .pointer (some ⟨g7, 0, none⟩) := h4 2 _ rfl _ rfl
    replace A := (⟨h1, h2.trans A.2⟩ : a.tmps.size = 48 ∧ a.defers = [])
    clear h1 h2 h3 h4
    refine wp_seq ?_
    refine wp_region_sq (σ := Nat) 48 [(0, 19), (1, 20), (2, 21), (3, 8)] (fun j_ s X => match j_ with | 0 => Below V.heap.size V X ∧ (V.heap.size ≤ g7) ∧ X.heap[g7]? = some (.cells (tpC p l 0) 26) | 1 => Below V.heap.size V X ∧ (V.heap.size ≤ g7) ∧ X.heap[g7]? = some (.cells (tpC p l 0) 26) | 2 => Below V.heap.size V X ∧ (V.heap.size ≤ g7) ∧ X.heap[g7]? = some (.cells (tpC p l 0) 26) | 3 => Below V.heap.size V X ∧ (V.heap.size ≤ g7) ∧ X.heap[g7]? = some (.cells (tpC p l 0) 26) ∧ (X.ownsRow V.heap.size 3 1 (.slice (some ⟨s, 0, none⟩) n n) n (intsL n (fun j => if j < 0 then (dA p l bs j : Int) else 0))) ∧ (V.heap.size ≤ s) | _ => Below V.heap.size V X ∧ (V.heap.size ≤ g7) ∧ X.heap[g7]? = some (.cells (tpC p l 0) 26) ∧ (X.ownsRow V.heap.size 3 1 (.slice (some ⟨s, 0, none⟩) n n) n (intsL n (fun j => if j < 0 then (dA p l bs j : Int) else 0))) ∧ (V.heap.size ≤ s)) (fun s => fun i_ => match i_ with | 0 => .slice ia n ic | 1 => .int .i64 ((n : Nat) : Int) | 2 => .slice (some ⟨s, 0, none⟩) n n | 3 => .slice (some ⟨s, 0, none⟩) n n | _ => undef) 0 A.1 (by kernel_rfl) (by decide) (by decide) ⟨BB, Fge7, F7⟩ ?_ ?_
    · intro i_ hi_ s a X hf hv hn hS
      match i_, hi_ with
      | 0, _ => exact stepV rfl rfl (execMvB rfl ((hf 1 (by decide)).trans t1)) ⟨s, ⟨_, rfl, rfl⟩, hS, fun _ _ => rfl⟩
      | 1, _ => exact stepV rfl rfl (execLenI (len := n) rfl (hv 0 (by omega) _ rfl _ rfl) ((FI.on hS.1)).shp) ⟨s, ⟨_, rfl, rfl⟩, hS, fun _ _ => rfl⟩
      | 2, _ =>
        refine stepV rfl rfl (execMkN rfl (hv 1 (by omega) _ rfl _ rfl) (hv 1 (by omega) _ rfl _ rfl) hn17) ⟨X.heap.size, ⟨_, rfl, rfl⟩, ⟨(hS.1).trans (((belNew X _)).mono (hS.1).size), hS.2.1, (on9 hS.2.2 (belNew X _)), ownD_base (own_mkZ X n _ hn17 (fun j_ _ => if_neg (Nat.not_lt_zero _))) (hS.1).size, (hS.1).size⟩, fun i hi => ?_⟩
        match i, hi with
        | 0, _ => rfl
        | 1, _ => rfl
        | n_ + 2, h_ => omega
      | 3, _ => exact stepV rfl rfl (execAsgB rfl (hv 2 (by omega) _ rfl _ rfl)) ⟨s, ⟨_, rfl, rfl⟩, hS, fun _ _ => rfl⟩
      | k_ + 4, h_ => exact absurd h_ (by simp)
    rintro g8 a X4 h1 h2 h3 h4 hS
    clear BB
    clear Fge7
    clear F7
    replace hS : Below V.heap.size V X4 ∧ (V.heap.size ≤ g7) ∧ X4.heap[g7]? = some (.cells (tpC p l 0) 26) ∧ (X4.ownsRow V.heap.size 3 1 (.slice (some ⟨g8, 0, none⟩) n n) n (intsL n (fun j => if j < 0 then (dA p l bs j : Int) else 0))) ∧ (V.heap.size ≤ g8) := hS
    obtain ⟨BB, Fge7, F7, FO, Fg8⟩ := hS
    replace t1 := (h3 1 (by decide)).trans t1
    replace t7 := (h3 7 (by decide)).trans t7
    have t8 : a.eval (.tmp 8) = .slice (some ⟨g8, 0, none⟩) n n := h4 3 _ rfl _ rfl
    replace A := (⟨h1, h2.trans A.2⟩ : a.tmps.size = 48 ∧ a.defers = [])
    clear h1 h2 h3 h4
    clear t0
    refine wp_seq ?_
    refine wp_seq ?_
    refine wp_region_sq (σ := Unit) 48 [(0, 22), (1, 23), (2, 24)] (fun j_ s X => match j_ with | 0 => Below V.heap.size V X ∧ (V.heap.size ≤ g7) ∧ X.heap[g7]? = some (.cells (tpC p l 0) 26) ∧ (X.ownsRow V.heap.size 3 1 (.slice (some ⟨g8, 0, none⟩) n n) n (intsL n (fun j => if j < 0 then (dA p l bs j : Int) else 0))) ∧ (V.heap.size ≤ g8) | 1 => Below V.heap.size V X ∧ (V.heap.size ≤ g7) ∧ X.heap[g7]? = some (.cells (tpC p l 0) 26) ∧ (X.ownsRow V.heap.size 3 1 (.slice (some ⟨g8, 0, none⟩) n n) n (intsL n (fun j => if j < 0 then (dA p l bs j : Int) else 0))) ∧ (V.heap.size ≤ g8) | 2 => Below V.heap.size V X ∧ (V.heap.size ≤ g7) ∧ X.heap[g7]? = some (.cells (tpC p l 0) 26) ∧ (X.ownsRow V.heap.size 3 1 (.slice (some ⟨g8, 0, none⟩) n n) n (intsL n (fun j => if j < 0 then (dA p l bs j : Int) else 0))) ∧ (V.heap.size ≤ g8) | _ => Below V.heap.size V X ∧ (V.heap.size ≤ g7) ∧ X.heap[g7]? = some (.cells (tpC p l 0) 26) ∧ (X.ownsRow V.heap.size 3 1 (.slice (some ⟨g8, 0, none⟩) n n) n (intsL n (fun j => if j < 0 then (dA p l bs j : Int) else 0))) ∧ (V.heap.size ≤ g8)) (fun s => fun i_ => match i_ with | 0 => .slice ia n ic | 1 => .int .i64 ((n : Nat) : Int) | 2 => .int .i64 ((0 : Nat) : Int) | _ => undef) () A.1 (by kernel_rfl) (by decide) (by decide) ⟨BB, Fge7, F7, FO, Fg8⟩ ?_ ?_
    · intro i_ hi_ s a X hf hv hn hS
      match i_, hi_ with
      | 0, _ => exact stepV rfl rfl (execMvB rfl ((hf 1 (by decide)).trans t1)) ⟨s, ⟨_, rfl, rfl⟩, hS, fun _ _ => rfl⟩
      | 1, _ => exact stepV rfl rfl (execLenI (len := n) rfl (hv 0 (by omega) _ rfl _ rfl) ((FI.on hS.1)).shp) ⟨s, ⟨_, rfl, rfl⟩, hS, fun _ _ => rfl⟩
      | 2, _ => exact stepV rfl rfl (execMvB rfl rfl) ⟨s, ⟨_, rfl, rfl⟩, hS, fun _ _ => rfl⟩
      | k_ + 3, h_ => exact absurd h_ (by simp)
    rintro _ a X5 h1 h2 h3 h4 hS
    clear BB
    clear Fge7
    clear F7
    clear FO
    clear Fg8
    replace hS : Below V.heap.size V X5 ∧ (V.heap.size ≤ g7) ∧ X5.heap[g7]? = some (.cells (tpC p l 0) 26) ∧ (X5.ownsRow V.heap.size 3 1 (.slice (some ⟨g8, 0, none⟩) n n) n (intsL n (fun j => if j < 0 then (dA p l bs j : Int) else 0))) ∧ (V.heap.size ≤ g8) := hS
    obtain ⟨BB, Fge7, F7, FO, Fg8⟩ := hS
    replace t7 := (h3 7 (by decide)).trans t7
    replace t8 := (h3 8 (by decide)).trans t8
    have t22 : a.eval (.tmp 22) = .slice ia n ic := h4 0 _ rfl _ rfl
    have t23 : a.eval (.tmp 23) = .int .i64 ((n : Nat) : Int) := h4 1 _ rfl _ rfl
    have t24 : a.eval (.tmp 24) = .int .i64 ((0 : Nat) : Int) := h4 2 _ rfl _ rfl
    replace A := (⟨h1, h2.trans A.2⟩ : a.tmps.size = 48 ∧ a.defers = [])
    clear h1 h2 h3 h4
    clear t1
    refine wp_block ?_
    refine wp_loop (fun a W => ∃ (i : Nat), i ≤ n ∧ okA p l bs i ∧ (a.tmps.size = 48 ∧ a.defers = []) ∧ a.eval (.tmp 7) = .pointer (some ⟨g7, 0, none⟩) ∧ a.eval (.tmp 8) = .slice (some ⟨g8, 0, none⟩) n n ∧ a.eval (.tmp 22) = .slice ia n ic ∧ a.eval (.tmp 23) = .int .i64 ((n : Nat) : Int) ∧ a.eval (.tmp 24) = .int .i64 ((i : Nat) : Int) ∧ Below V.heap.size V W ∧ W.heap[g7]? = some (.cells (tpC p l (plA p l bs i)) 26) ∧ W.ownsRow V.heap.size 3 1 (.slice (some ⟨g8, 0, none⟩) n n) n (intsL n (fun j => if j < i then (dA p l bs j : Int) else 0))) (fun a _ => n - (intOf (a.eval (.tmp 24))).toNat) ⟨0, Nat.zero_le _, (fun i hi => absurd hi (Nat.not_lt_zero _)), A, t7, t8, t22, t23, t24, BB, F7, FO⟩ ?_
    clear A t7 t8 t22 t23 t24 BB F7 FO a
    rintro a XL ⟨i, hi, hok, A, t7, t8, t22, t23, t24, BB, F7, FO⟩
    have e24 := t24
    refine wp_seq ?_
    refine wp_region_sq (σ := Unit) 48 [(0, 25)] (fun j_ s X => match j_ with | 0 => Below V.heap.size V X ∧ X.heap[g7]? = some (.cells (tpC p l (plA p l bs i)) 26) ∧ (X.ownsRow V.heap.size 3 1 (.slice (some ⟨g8, 0, none⟩) n n) n (intsL n (fun j => if j < i then (dA p l bs j : Int) else 0))) ∧ (V.heap.size ≤ g7) | _ => Below V.heap.size V X ∧ X.heap[g7]? = some (.cells (tpC p l (plA p l bs i)) 26) ∧ (X.ownsRow V.heap.size 3 1 (.slice (some ⟨g8, 0, none⟩) n n) n (intsL n (fun j => if j < i then (dA p l bs j : Int) else 0))) ∧ (V.heap.size ≤ g7)) (fun s => fun i_ => match i_ with | 0 => .bool (decide (i < n)) | _ => undef) () A.1 (by kernel_rfl) (by decide) (by decide) ⟨BB, F7, FO, Fge7⟩ ?_ ?_
    · intro i_ hi_ s a X hf hv hn hS
      match i_, hi_ with
      | 0, _ => exact stepV rfl rfl (execLtW (p := i) (q := n) rfl ((hf 24 (by decide)).trans t24) ((hf 23 (by decide)).trans t23)) ⟨s, ⟨_, rfl, rfl⟩, hS, fun _ _ => rfl⟩
      | k_ + 1, h_ => exact absurd h_ (by simp)
    rintro _ a X6 h1 h2 h3 h4 hS
    clear BB
    clear F7
    clear FO
    clear Fge7
    replace hS : Below V.heap.size V X6 ∧ X6.heap[g7]? = some (.cells (tpC p l (plA p l bs i)) 26) ∧ (X6.ownsRow V.heap.size 3 1 (.slice (some ⟨g8, 0, none⟩) n n) n (intsL n (fun j => if j < i then (dA p l bs j : Int) else 0))) ∧ (V.heap.size ≤ g7) := hS
    obtain ⟨BB, F7, FO, Fge7⟩ := hS
    replace t7 := (h3 7 (by decide)).trans t7
    replace t8 := (h3 8 (by decide)).trans t8
    replace t22 := (h3 22 (by decide)).trans t22
    replace t23 := (h3 23 (by decide)).trans t23
    replace t24 := (h3 24 (by decide)).trans t24
    have t25 : a.eval (.tmp 25) = .bool (decide (i < n)) := h4 0 _ rfl _ rfl
    replace A := (⟨h1, h2.trans A.2⟩ : a.tmps.size = 48 ∧ a.defers = [])
    clear h1 h2 h3 h4
    refine wp_seq ?_
    by_cases hlt : i < n
    · rw [decide_eq_true hlt] at t25
      refine wp_cond_true t25 ?_
      refine wp_skip ?_
      clear t25
      obtain ⟨ib, io, rfl, hib, hcell⟩ := hsh (by omega)
      have cI : ∀ X, Below V.heap.size V X → X.cell? ⟨ib, io + i, none⟩ = some (.int .i64 (bs i)) := fun X hX => by rw [cell_below hX hib]; exact hcell i hlt
      refine wp_seq ?_
      refine wp_block ?_
      refine wp_seq ?_
      refine wp_region_sq (σ := Unit) 48 [(0, 26), (1, 27), (2, 28), (3, 9), (4, 10)] (fun j_ s X => match j_ with | 0 => Below V.heap.size V X ∧ X.heap[g7]? = some (.cells (tpC p l (plA p l bs i)) 26) ∧ (X.ownsRow V.heap.size 3 1 (.slice (some ⟨g8, 0, none⟩) n n) n (intsL n (fun j => if j < i then (dA p l bs j : Int) else 0))) ∧ (V.heap.size ≤ g7) | 1 => Below V.heap.size V X ∧ X.heap[g7]? = some (.cells (tpC p l (plA p l bs i)) 26) ∧ (X.ownsRow V.heap.size 3 1 (.slice (some ⟨g8, 0, none⟩) n n) n (intsL n (fun j => if j < i then (dA p l bs j : Int) else 0))) ∧ (V.heap.size ≤ g7) | 2 => Below V.heap.size V X ∧ X.heap[g7]? = some (.cells (tpC p l (plA p l bs i)) 26) ∧ (X.ownsRow V.heap.size 3 1 (.slice (some ⟨g8, 0, none⟩) n n) n (intsL n (fun j => if j < i then (dA p l bs j : Int) else 0))) ∧ (V.heap.size ≤ g7) | 3 => Below V.heap.size V X ∧ X.heap[g7]? = some (.cells (tpC p l (plA p l bs i)) 26) ∧ (X.ownsRow V.heap.size 3 1 (.slice (some ⟨g8, 0, none⟩) n n) n (intsL n (fun j => if j < i then (dA p l bs j : Int) else 0))) ∧ (V.heap.size ≤ g7) | 4 => Below V.heap.size V X ∧ X.heap[g7]? = some (.cells (tpC p l (plA p l bs i)) 26) ∧ (X.ownsRow V.heap.size 3 1 (.slice (some ⟨g8, 0, none⟩) n n) n (intsL n (fun j => if j < i then (dA p l bs j : Int) else 0))) ∧ (V.heap.size ≤ g7) | _ => Below V.heap.size V X ∧ X.heap[g7]? = some (.cells (tpC p l (plA p l bs i)) 26) ∧ (X.ownsRow V.heap.size 3 1 (.slice (some ⟨g8, 0, none⟩) n n) n (intsL n (fun j => if j < i then (dA p l bs j : Int) else 0))) ∧ (V.heap.size ≤ g7)) (fun s => fun i_ => match i_ with | 0 => .int .i64 ((i : Nat) : Int) | 1 => .pointer (some ⟨ib, io + i, none⟩) | 2 => .int .i64 (bs i) | 3 => .int .i64 ((i : Nat) : Int) | 4 => .int .i64 (bs i) | _ => undef) () A.1 (by kernel_rfl) (by decide) (by decide) ⟨BB, F7, FO, Fge7⟩ ?_ ?_
      · intro i_ hi_ s a X hf hv hn hS
        match i_, hi_ with
        | 0, _ => exact stepV rfl rfl (execMvB rfl ((hf 24 (by decide)).trans t24)) ⟨s, ⟨_, rfl, rfl⟩, hS, fun _ _ => rfl⟩
        | 1, _ => exact stepV rfl rfl (execIdxN (k := i) rfl ((hf 22 (by decide)).trans t22) ((hf 24 (by decide)).trans t24) hlt) ⟨s, ⟨_, rfl, rfl⟩, hS, fun _ _ => rfl⟩
        | 2, _ => exact stepV rfl rfl (execLd3 rfl (hv 1 (by omega) _ rfl _ rfl) (cI X hS.1)) ⟨s, ⟨_, rfl, rfl⟩, hS, fun _ _ => rfl⟩
        | 3, _ => exact stepV rfl rfl (execAsgB rfl (hv 0 (by omega) _ rfl _ rfl)) ⟨s, ⟨_, rfl, rfl⟩, hS, fun _ _ => rfl⟩
        | 4, _ => exact stepV rfl rfl (execAsgB rfl (hv 2 (by omega) _ rfl _ rfl)) ⟨s, ⟨_, rfl, rfl⟩, hS, fun _ _ => rfl⟩
        | k_ + 5, h_ => exact absurd h_ (by simp)
      rintro _ a X7 h1 h2 h3 h4 hS
      clear BB
      clear F7
      clear FO
      clear Fge7
      replace hS : Below V.heap.size V X7 ∧ X7.heap[g7]? = some (.cells (tpC p l (plA p l bs i)) 26) ∧ (X7.ownsRow V.heap.size 3 1 (.slice (some ⟨g8, 0, none⟩) n n) n (intsL n (fun j => if j < i then (dA p l bs j : Int) else 0))) ∧ (V.heap.size ≤ g7) := hS
      obtain ⟨BB, F7, FO, Fge7⟩ := hS
      replace t7 := (h3 7 (by decide)).trans t7
      replace t8 := (h3 8 (by decide)).trans t8
      replace t22 := (h3 22 (by decide)).trans t22
      replace t23 := (h3 23 (by decide)).trans t23
      replace t24 := (h3 24 (by decide)).trans t24
      have t9 : a.eval (.tmp 9) = .int .i64 ((i : Nat) : Int) := h4 3 _ rfl _ rfl
      have t10 : a.eval (.tmp 10) = .int .i64 (bs i) := h4 4 _ rfl _ rfl
      replace A := (⟨h1, h2.trans A.2⟩ : a.tmps.size = 48 ∧ a.defers = [])
      clear h1 h2 h3 h4
      refine wp_seq ?_
      refine wp_region_sq (σ := Nat) 48 [(0, 30), (1, 31), (2, 32), (3, 29), (4, 33), (5, 34), (6, 35), (7, 12), (8, 11), (10, 13)] (fun j_ s X => match j_ with | 0 => Below V.heap.size V X ∧ X.heap[g7]? = some (.cells (tpC p l (plA p l bs i)) 26) ∧ (X.ownsRow V.heap.size 3 1 (.slice (some ⟨g8, 0, none⟩) n n) n (intsL n (fun j => if j < i then (dA p l bs j : Int) else 0))) ∧ (V.heap.size ≤ g7) | 1 => Below V.heap.size V X ∧ X.heap[g7]? = some (.cells (tpC p l (plA p l bs i)) 26) ∧ (X.ownsRow V.heap.size 3 1 (.slice (some ⟨g8, 0, none⟩) n n) n (intsL n (fun j => if j < i then (dA p l bs j : Int) else 0))) ∧ (V.heap.size ≤ g7) | 2 => Below V.heap.size V X ∧ X.heap[g7]? = some (.cells (tpC p l (plA p l bs i)) 26) ∧ (X.ownsRow V.heap.size 3 1 (.slice (some ⟨g8, 0, none⟩) n n) n (intsL n (fun j => if j < i then (dA p l bs j : Int) else 0))) ∧ (V.heap.size ≤ g7) | 3 => Below V.heap.size V X ∧ X.heap[g7]? = some (.cells (tpC p l (plA p l bs i)) 26) ∧ (X.ownsRow V.heap.size 3 1 (.slice (some ⟨g8, 0, none⟩) n n) n (intsL n (fun j => if j < i then (dA p l bs j : Int) else 0))) ∧ (V.heap.size ≤ g7) | 4 => Below V.heap.size V X ∧ X.heap[g7]? = some (.cells (tpC p l (plA p l bs i)) 26) ∧ (X.ownsRow V.heap.size 3 1 (.slice (some ⟨g8, 0, none⟩) n n) n (intsL n (fun j => if j < i then (dA p l bs j : Int) else 0))) ∧ (V.heap.size ≤ g7) | 5 => Below V.heap.size V X ∧ X.heap[g7]? = some (.cells (tpC p l (plA p l bs i)) 26) ∧ (X.ownsRow V.heap.size 3 1 (.slice (some ⟨g8, 0, none⟩) n n) n (intsL n (fun j => if j < i then (dA p l bs j : Int) else 0))) ∧ (V.heap.size ≤ g7) | 6 => Below V.heap.size V X ∧ X.heap[g7]? = some (.cells (tpC p l (plA p l bs i)) 26) ∧ (X.ownsRow V.heap.size 3 1 (.slice (some ⟨g8, 0, none⟩) n n) n (intsL n (fun j => if j < i then (dA p l bs j : Int) else 0))) ∧ (V.heap.size ≤ g7) | 7 => Below V.heap.size V X ∧ X.heap[g7]? = some (.cells (tpC p l (plA p l bs i)) 26) ∧ (X.ownsRow V.heap.size 3 1 (.slice (some ⟨g8, 0, none⟩) n n) n (intsL n (fun j => if j < i then (dA p l bs j : Int) else 0))) ∧ (V.heap.size ≤ g7) | 8 => Below V.heap.size V X ∧ X.heap[g7]? = some (.cells (tpC p l (plA p l bs i)) 26) ∧ (X.ownsRow V.heap.size 3 1 (.slice (some ⟨g8, 0, none⟩) n n) n (intsL n (fun j => if j < i then (dA p l bs j : Int) else 0))) ∧ (V.heap.size ≤ g7) ∧ X.heap[s]? = some (.cells (tpC (fun _ => 0) 0 0) 26) ∧ (V.heap.size ≤ s) ∧ (g7 ≠ s) | 9 => Below V.heap.size V X ∧ X.heap[g7]? = some (.cells (tpC p l (plA p l bs i)) 26) ∧ (X.ownsRow V.heap.size 3 1 (.slice (some ⟨g8, 0, none⟩) n n) n (intsL n (fun j => if j < i then (dA p l bs j : Int) else 0))) ∧ (V.heap.size ≤ g7) ∧ X.heap[s]? = some (.cells (tpC (fun _ => 0) 0 0) 26) ∧ (V.heap.size ≤ s) ∧ (g7 ≠ s) | 10 => Below V.heap.size V X ∧ X.heap[g7]? = some (.cells (tpC p l (plA p l bs i)) 26) ∧ (X.ownsRow V.heap.size 3 1 (.slice (some ⟨g8, 0, none⟩) n n) n (intsL n (fun j => if j < i then (dA p l bs j : Int) else 0))) ∧ (V.heap.size ≤ g7) ∧ (V.heap.size ≤ s) ∧ (g7 ≠ s) ∧ X.heap[s]? = some (.cells (tpC p (if dE p l (plA p l bs i) (bs i) = 0 then l else 0) (dN p l (plA p l bs i) (bs i))) 26) | _ => Below V.heap.size V X ∧ X.heap[g7]? = some (.cells (tpC p l (plA p l bs i)) 26) ∧ (X.ownsRow V.heap.size 3 1 (.slice (some ⟨g8, 0, none⟩) n n) n (intsL n (fun j => if j < i then (dA p l bs j : Int) else 0))) ∧ (V.heap.size ≤ g7) ∧ (V.heap.size ≤ s) ∧ (g7 ≠ s) ∧ X.heap[s]? = some (.cells (tpC p (if dE p l (plA p l bs i) (bs i) = 0 then l else 0) (dN p l (plA p l bs i) (bs i))) 26)) (fun s => fun i_ => match i_ with | 0 => .agg (tpC p l (plA p l bs i)) | 1 => .int .i64 (bs i) | 2 => .tuple #[.int .i64 ((dV p l (plA p l bs i) (bs i) : Nat) : Int), .agg (tpC p (if dE p l (plA p l bs i) (bs i) = 0 then l else 0) (dN p l (plA p l bs i) (bs i))), .int .i64 ((dE p l (plA p l bs i) (bs i) : Nat) : Int)] | 3 => .tuple #[.int .i64 ((dV p l (plA p l bs i) (bs i) : Nat) : Int), .agg (tpC p (if dE p l (plA p l bs i) (bs i) = 0 then l else 0) (dN p l (plA p l bs i) (bs i))), .int .i64 ((dE p l (plA p l bs i) (bs i) : Nat) : Int)] | 4 => .int .i64 ((dV p l (plA p l bs i) (bs i) : Nat) : Int) | 5 => .agg (tpC p (if dE p l (plA p l bs i) (bs i) = 0 then l else 0) (dN p l (plA p l bs i) (bs i))) | 6 => .int .i64 ((dE p l (plA p l bs i) (bs i) : Nat) : Int) | 7 => .pointer (some ⟨s, 0, none⟩) | 8 => .int .i64 ((dV p l (plA p l bs i) (bs i) : Nat) : Int) | 9 => undef | 10 => .int .i64 ((dE p l (plA p l bs i) (bs i) : Nat) : Int) | _ => undef) 0 A.1 (by kernel_rfl) (by decide) (by decide) ⟨BB, F7, FO, Fge7⟩ ?_ ?_
      · intro i_ hi_ s a X hf hv hn hS
        match i_, hi_ with
        | 0, _ => exact stepV rfl rfl (execLdTp rfl ((hf 7 (by decide)).trans t7) hS.2.1) ⟨s, ⟨_, rfl, rfl⟩, hS, fun _ _ => rfl⟩
        | 1, _ => exact stepV rfl rfl (execMvB rfl ((hf 10 (by decide)).trans t10)) ⟨s, ⟨_, rfl, rfl⟩, hS, fun _ _ => rfl⟩
        | 2, _ => exact stepC rfl rfl (execCall2 Try.func13 (by kernel_rfl) (by kernel_rfl) rfl (hv 0 (by omega) _ rfl _ rfl) (hv 1 (by omega) _ rfl _ rfl)) (pbelow_any p l (plA p l bs i) (bs i) X (plA_le p l bs i) hl hpb) fun e w' hh => ⟨_, hh.1, s, ⟨_, rfl, rfl⟩, ⟨(hS.1).trans ((hh.2).mono (hS.1).size), (on9 hS.2.1 hh.2), (ownD_below hS.2.2.1 hh.2), hS.2.2.2⟩, fun _ _ => rfl⟩
        | 3, _ => exact stepV rfl rfl (execMvB rfl (hv 2 (by omega) _ rfl _ rfl)) ⟨s, ⟨_, rfl, rfl⟩, hS, fun _ _ => rfl⟩
        | 4, _ => exact stepV rfl rfl (execExtT rfl (hv 3 (by omega) _ rfl _ rfl) rfl) ⟨s, ⟨_, rfl, rfl⟩, hS, fun _ _ => rfl⟩
        | 5, _ => exact stepV rfl rfl (execExtT rfl (hv 3 (by omega) _ rfl _ rfl) rfl) ⟨s, ⟨_, rfl, rfl⟩, hS, fun _ _ => rfl⟩
        | 6, _ => exact stepV rfl rfl (execExtT rfl (hv 3 (by omega) _ rfl _ rfl) rfl) ⟨s, ⟨_, rfl, rfl⟩, hS, fun _ _ => rfl⟩
        | 7, _ =>
          refine stepV rfl rfl (execAllTp rfl (fun _ => 0)) ⟨X.heap.size, ⟨_, rfl, rfl⟩, ⟨(hS.1).trans (((belNew X _)).mono (hS.1).size), (on9 hS.2.1 (belNew X _)), (ownD_below hS.2.2.1 (belNew X _)), hS.2.2.2, heapNew X _, (hS.1).size, ne9 hS.2.1⟩, fun i hi => ?_⟩
          match i, hi with
          | 0, _ => rfl
          | 1, _ => rfl
          | 2, _ => rfl
          | 3, _ => rfl
          | 4, _ => rfl
          | 5, _ => rfl
          | 6, _ => rfl
          | n_ + 7, h_ => omega
        | 8, _ => exact stepV rfl rfl (execAsgB rfl (hv 4 (by omega) _ rfl _ rfl)) ⟨s, ⟨_, rfl, rfl⟩, hS, fun _ _ => rfl⟩
        | 9, _ => exact stepS rfl rfl (execStTp rfl (hv 7 (by omega) _ rfl _ rfl) (hv 5 (by omega) _ rfl _ rfl) hS.2.2.2.2.1 rfl) ⟨s, ⟨_, rfl, rfl⟩, ⟨below4 hS.1 hS.2.2.2.2.2.1 _, (by rw [setRow_other _ _ _ _ (hS.2.2.2.2.2.2)]; exact hS.2.1), (own_setT hS.2.2.1 hS.2.2.2.2.1 (by decide)), hS.2.2.2.1, hS.2.2.2.2.2.1, hS.2.2.2.2.2.2, setRow_heap _ _ _ _ _ _ hS.2.2.2.2.1⟩, fun _ _ => rfl⟩
        | 10, _ => exact stepV rfl rfl (execAsgB rfl (hv 6 (by omega) _ rfl _ rfl)) ⟨s, ⟨_, rfl, rfl⟩, hS, fun _ _ => rfl⟩
        | k_ + 11, h_ => exact absurd h_ (by simp)
      rintro g12 a X8 h1 h2 h3 h4 hS
      clear BB
      clear F7
      clear FO
      clear Fge7
      replace hS : Below V.heap.size V X8 ∧ X8.heap[g7]? = some (.cells (tpC p l (plA p l bs i)) 26) ∧ (X8.ownsRow V.heap.size 3 1 (.slice (some ⟨g8, 0, none⟩) n n) n (intsL n (fun j => if j < i then (dA p l bs j : Int) else 0))) ∧ (V.heap.size ≤ g7) ∧ (V.heap.size ≤ g12) ∧ (g7 ≠ g12) ∧ X8.heap[g12]? = some (.cells (tpC p (if dE p l (plA p l bs i) (bs i) = 0 then l else 0) (dN p l (plA p l bs i) (bs i))) 26) := hS
      obtain ⟨BB, F7, FO, Fge7, Fge12, Fn12F7, F12⟩ := hS
      replace t7 := (h3 7 (by decide)).trans t7
      replace t8 := (h3 8 (by decide)).trans t8
      replace t22 := (h3 22 (by decide)).trans t22
      replace t23 := (h3 23 (by decide)).trans t23
      replace t24 := (h3 24 (by decide)).trans t24
      replace t9 := (h3 9 (by decide)).trans t9
      have t11 : a.eval (.tmp 11) = .int .i64 ((dV p l (plA p l bs i) (bs i) : Nat) : Int) := h4 8 _ rfl _ rfl
      have t12 : a.eval (.tmp 12) = .pointer (some ⟨g12, 0, none⟩) := h4 7 _ rfl _ rfl
      have t13 : a.eval (.tmp 13) = .int .i64 ((dE p l (plA p l bs i) (bs i) : Nat) : Int) := h4 10 _ rfl _ rfl
      replace A := (⟨h1, h2.trans A.2⟩ : a.tmps.size = 48 ∧ a.defers = [])
      clear h1 h2 h3 h4
      clear t10
      refine wp_seq ?_
      refine wp_seq ?_
      refine wp_region_sq (σ := Unit) 48 [(0, 36), (1, 37)] (fun j_ s X => match j_ with | 0 => Below V.heap.size V X ∧ X.heap[g7]? = some (.cells (tpC p l (plA p l bs i)) 26) ∧ (X.ownsRow V.heap.size 3 1 (.slice (some ⟨g8, 0, none⟩) n n) n (intsL n (fun j => if j < i then (dA p l bs j : Int) else 0))) ∧ (V.heap.size ≤ g7) ∧ (V.heap.size ≤ g12) ∧ (g7 ≠ g12) ∧ X.heap[g12]? = some (.cells (tpC p (if dE p l (plA p l bs i) (bs i) = 0 then l else 0) (dN p l (plA p l bs i) (bs i))) 26) | 1 => Below V.heap.size V X ∧ X.heap[g7]? = some (.cells (tpC p l (plA p l bs i)) 26) ∧ (X.ownsRow V.heap.size 3 1 (.slice (some ⟨g8, 0, none⟩) n n) n (intsL n (fun j => if j < i then (dA p l bs j : Int) else 0))) ∧ (V.heap.size ≤ g7) ∧ (V.heap.size ≤ g12) ∧ (g7 ≠ g12) ∧ X.heap[g12]? = some (.cells (tpC p (if dE p l (plA p l bs i) (bs i) = 0 then l else 0) (dN p l (plA p l bs i) (bs i))) 26) | _ => Below V.heap.size V X ∧ X.heap[g7]? = some (.cells (tpC p l (plA p l bs i)) 26) ∧ (X.ownsRow V.heap.size 3 1 (.slice (some ⟨g8, 0, none⟩) n n) n (intsL n (fun j => if j < i then (dA p l bs j : Int) else 0))) ∧ (V.heap.size ≤ g7) ∧ (V.heap.size ≤ g12) ∧ (g7 ≠ g12) ∧ X.heap[g12]? = some (.cells (tpC p (if dE p l (plA p l bs i) (bs i) = 0 then l else 0) (dN p l (plA p l bs i) (bs i))) 26)) (fun s => fun i_ => match i_ with | 0 => .int .i64 ((dE p l (plA p l bs i) (bs i) : Nat) : Int) | 1 => .bool (decide (dE p l (plA p l bs i) (bs i) ≠ 0)) | _ => undef) () A.1 (by kernel_rfl) (by decide) (by decide) ⟨BB, F7, FO, Fge7, Fge12, Fn12F7, F12⟩ ?_ ?_
      · intro i_ hi_ s a X hf hv hn hS
        match i_, hi_ with
        | 0, _ => exact stepV rfl rfl (execMvB rfl ((hf 13 (by decide)).trans t13)) ⟨s, ⟨_, rfl, rfl⟩, hS, fun _ _ => rfl⟩
        | 1, _ => exact stepV rfl rfl (execNeE (p := dE p l (plA p l bs i) (bs i)) (q := 0) rfl (hv 0 (by omega) _ rfl _ rfl) rfl) ⟨s, ⟨_, rfl, rfl⟩, hS, fun _ _ => rfl⟩
        | k_ + 2, h_ => exact absurd h_ (by simp)
      rintro _ a X9 h1 h2 h3 h4 hS
      clear BB
      clear F7
      clear FO
      clear Fge7
      clear Fge12
      clear Fn12F7
      clear F12
      replace hS : Below V.heap.size V X9 ∧ X9.heap[g7]? = some (.cells (tpC p l (plA p l bs i)) 26) ∧ (X9.ownsRow V.heap.size 3 1 (.slice (some ⟨g8, 0, none⟩) n n) n (intsL n (fun j => if j < i then (dA p l bs j : Int) else 0))) ∧ (V.heap.size ≤ g7) ∧ (V.heap.size ≤ g12) ∧ (g7 ≠ g12) ∧ X9.heap[g12]? = some (.cells (tpC p (if dE p l (plA p l bs i) (bs i) = 0 then l else 0) (dN p l (plA p l bs i) (bs i))) 26) := hS
      obtain ⟨BB, F7, FO, Fge7, Fge12, Fn12F7, F12⟩ := hS
      replace t7 := (h3 7 (by decide)).trans t7
      replace t8 := (h3 8 (by decide)).trans t8
      replace t22 := (h3 22 (by decide)).trans t22
      replace t23 := (h3 23 (by decide)).trans t23
      replace t24 := (h3 24 (by decide)).trans t24
      replace t9 := (h3 9 (by decide)).trans t9
      replace t11 := (h3 11 (by decide)).trans t11
      replace t12 := (h3 12 (by decide)).trans t12
      replace t13 := (h3 13 (by decide)).trans t13
      have t37 : a.eval (.tmp 37) = .bool (decide (dE p l (plA p l bs i) (bs i) ≠ 0)) := h4 1 _ rfl _ rfl
      replace A := (⟨h1, h2.trans A.2⟩ : a.tmps.size = 48 ∧ a.defers = [])
      clear h1 h2 h3 h4
      by_cases hE0 : dE p l (plA p l bs i) (bs i) = 0
      · rw [decide_eq_false (by omega)] at t37
        refine wp_cond_false t37 ?_
        refine wp_skip ?_
        clear t37 t13
        rw [if_pos hE0] at F12
        have Fn7F12 := Fn12F7.symm
        refine wp_region_stB (σ := Unit) 48 [(0, 39), (1, 40), (2, 41), (3, 42), (4, 43)] (fun l_ s X => Below V.heap.size V X ∧ (l_ 6 = false → X.heap[g7]? = some (.cells (tpC p l (plA p l bs i)) 26)) ∧ (l_ 5 = false → (X.ownsRow V.heap.size 3 1 (.slice (some ⟨g8, 0, none⟩) n n) n (intsL n (fun j => if j < i then (dA p l bs j : Int) else 0)))) ∧ ((V.heap.size ≤ g7)) ∧ ((V.heap.size ≤ g12)) ∧ ((g7 ≠ g12)) ∧ (X.heap[g12]? = some (.cells (tpC p l (dN p l (plA p l bs i) (bs i))) 26)) ∧ ((g12 ≠ g7)) ∧ (l_ 5 = true → (X.ownsRow V.heap.size 3 1 (.slice (some ⟨g8, 0, none⟩) n n) n (intsL n (fun j => if j < (i + 1) then (dA p l bs j : Int) else 0)))) ∧ (l_ 6 = true → X.heap[g7]? = some (.cells (tpC p l (dN p l (plA p l bs i) (bs i))) 26))) (fun s => fun i_ => match i_ with | 0 => .slice (some ⟨g8, 0, none⟩) n n | 1 => .int .i64 ((i : Nat) : Int) | 2 => .int .i64 ((dV p l (plA p l bs i) (bs i) : Nat) : Int) | 3 => .agg (tpC p l (dN p l (plA p l bs i) (bs i))) | 4 => .pointer (some ⟨g8, 0 + i, none⟩) | 5 => undef | 6 => undef | _ => undef) () (by kernel_rfl) (by kernel_rfl) A.1 (by kernel_rfl) (by decide) (by decide) ⟨(BB.drew), (fun _ => (on9 F7 (Below.refl _ _).drew)), (fun _ => (ownD_below FO (Below.refl _ _).drew)), (Fge7), (Fge12), (Fn12F7), ((on9 F12 (Below.refl _ _).drew)), (Fn7F12), (fun q0_ => by cases q0_), (fun q0_ => by cases q0_)⟩ ?_ ?_
        · intro i_ hi_ l_ s a X hl_ hf hdep hl2 hcl hno hT
          have up : ∀ j x, x ≠ j → updB l_ j x = l_ x := fun j x hj => by unfold updB; simp [hj]
          match i_, hi_ with
          | 0, _ => exact stepV rfl rfl (execMvB rfl ((hf 8 (by decide)).trans t8)) ⟨s, ⟨_, rfl, rfl⟩, ⟨hT.1, (fun q0_ => (hT.2.1 (by rw [up 0 6 (by decide)] at q0_; exact q0_))), (fun q0_ => (hT.2.2.1 (by rw [up 0 5 (by decide)] at q0_; exact q0_))), (hT.2.2.2.1), (hT.2.2.2.2.1), (hT.2.2.2.2.2.1), (hT.2.2.2.2.2.2.1), (hT.2.2.2.2.2.2.2.1), (fun q0_ => absurd (hl_.symm.trans (hcl 5 _ rfl ((up 0 5 (by decide)).symm.trans q0_) 0 rfl)) (by decide)), (fun q0_ => absurd (hl_.symm.trans (hcl 6 _ rfl ((up 0 6 (by decide)).symm.trans q0_) 0 rfl)) (by decide))⟩, fun _ _ _ => rfl⟩
          | 1, _ => exact stepV rfl rfl (execMvB rfl ((hf 9 (by decide)).trans t9)) ⟨s, ⟨_, rfl, rfl⟩, ⟨hT.1, (fun q0_ => (hT.2.1 (by rw [up 1 6 (by decide)] at q0_; exact q0_))), (fun q0_ => (hT.2.2.1 (by rw [up 1 5 (by decide)] at q0_; exact q0_))), (hT.2.2.2.1), (hT.2.2.2.2.1), (hT.2.2.2.2.2.1), (hT.2.2.2.2.2.2.1), (hT.2.2.2.2.2.2.2.1), (fun q0_ => absurd (hl_.symm.trans (hcl 5 _ rfl ((up 1 5 (by decide)).symm.trans q0_) 1 rfl)) (by decide)), (fun q0_ => absurd (hl_.symm.trans (hcl 6 _ rfl ((up 1 6 (by decide)).symm.trans q0_) 1 rfl)) (by decide))⟩, fun _ _ _ => rfl⟩
          | 2, _ => exact stepV rfl rfl (execMvB rfl ((hf 11 (by decide)).trans t11)) ⟨s, ⟨_, rfl, rfl⟩, ⟨hT.1, (fun q0_ => (hT.2.1 (by rw [up 2 6 (by decide)] at q0_; exact q0_))), (fun q0_ => (hT.2.2.1 (by rw [up 2 5 (by decide)] at q0_; exact q0_))), (hT.2.2.2.1), (hT.2.2.2.2.1), (hT.2.2.2.2.2.1), (hT.2.2.2.2.2.2.1), (hT.2.2.2.2.2.2.2.1), (fun q0_ => absurd (hl_.symm.trans (hcl 5 _ rfl ((up 2 5 (by decide)).symm.trans q0_) 2 rfl)) (by decide)), (fun q0_ => absurd (hl_.symm.trans (hcl 6 _ rfl ((up 2 6 (by decide)).symm.trans q0_) 2 rfl)) (by decide))⟩, fun _ _ _ => rfl⟩
          | 3, _ => exact stepV rfl rfl (execLdTp rfl ((hf 12 (by decide)).trans t12) hT.2.2.2.2.2.2.1) ⟨s, ⟨_, rfl, rfl⟩, ⟨hT.1, (fun q0_ => (hT.2.1 (by rw [up 3 6 (by decide)] at q0_; exact q0_))), (fun q0_ => (hT.2.2.1 (by rw [up 3 5 (by decide)] at q0_; exact q0_))), (hT.2.2.2.1), (hT.2.2.2.2.1), (hT.2.2.2.2.2.1), (hT.2.2.2.2.2.2.1), (hT.2.2.2.2.2.2.2.1), (fun q0_ => (hT.2.2.2.2.2.2.2.2.1 (by rw [up 3 5 (by decide)] at q0_; exact q0_))), (fun q0_ => absurd (hl_.symm.trans (hcl 6 _ rfl ((up 3 6 (by decide)).symm.trans q0_) 3 rfl)) (by decide))⟩, fun _ _ _ => rfl⟩
          | 4, _ => exact stepV rfl rfl (execIdxN (k := i) rfl (hdep _ rfl 0 rfl _ rfl _ rfl) (hdep _ rfl 1 rfl _ rfl _ rfl) hlt) ⟨s, ⟨_, rfl, rfl⟩, ⟨hT.1, (fun q0_ => (hT.2.1 (by rw [up 4 6 (by decide)] at q0_; exact q0_))), (fun q0_ => (hT.2.2.1 (by rw [up 4 5 (by decide)] at q0_; exact q0_))), (hT.2.2.2.1), (hT.2.2.2.2.1), (hT.2.2.2.2.2.1), (hT.2.2.2.2.2.2.1), (hT.2.2.2.2.2.2.2.1), (fun q0_ => absurd (hl_.symm.trans (hcl 5 _ rfl ((up 4 5 (by decide)).symm.trans q0_) 4 rfl)) (by decide)), (fun q0_ => absurd (hl_.symm.trans (hcl 6 _ rfl ((up 4 6 (by decide)).symm.trans q0_) 4 rfl)) (by decide))⟩, fun _ _ _ => rfl⟩
          | 5, _ =>
            obtain ⟨hc_, hf_⟩ := own_cellI (hT.2.2.1 hl_) hlt
            refine stepS rfl rfl (execStI9 rfl (hdep _ rfl 4 rfl _ rfl _ rfl) (hdep _ rfl 2 rfl _ rfl _ rfl) hc_ hf_) ⟨s, ⟨_, rfl, rfl⟩, ⟨(hT.1).setCell Fg8 _, (fun q0_ => (off_own (hT.2.2.1 hl_) (hT.2.1 (by rw [up 5 6 (by decide)] at q0_; exact q0_)) (by decide))), (fun q0_ => absurd q0_ (by unfold updB; simp)), (hT.2.2.2.1), (hT.2.2.2.2.1), (hT.2.2.2.2.2.1), ((off_own (hT.2.2.1 hl_) hT.2.2.2.2.2.2.1 (by decide))), (hT.2.2.2.2.2.2.2.1), (fun _q0_ => own_setI (hT.2.2.1 hl_)), (fun q0_ => absurd (hl_.symm.trans (hcl 6 _ rfl ((up 5 6 (by decide)).symm.trans q0_) 5 rfl)) (by decide))⟩, fun i hi hli => ?_⟩
            match i, hi with
            | 0, _ => rfl
            | 1, _ => rfl
            | 2, _ => rfl
            | 3, _ => rfl
            | 4, _ => rfl
            | 5, _ => exact absurd (hl_.symm.trans hli) (by decide)
            | 6, _ => rfl
            | k_ + 7, h_ => exact absurd h_ (by simp)
          | 6, _ => exact stepS rfl rfl (execStTp rfl ((hf 7 (by decide)).trans t7) (hdep _ rfl 3 rfl _ rfl _ rfl) (hT.2.1 hl_) rfl) ⟨s, ⟨_, rfl, rfl⟩, ⟨below4 hT.1 hT.2.2.2.1 _, (fun q0_ => absurd q0_ (by unfold updB; simp)), (fun q0_ => absurd (q0_.symm.trans ((up 6 5 (by decide)).trans (hl2 _ rfl 5 rfl))) (by decide)), (hT.2.2.2.1), (hT.2.2.2.2.1), (hT.2.2.2.2.2.1), ((by rw [setRow_other _ _ _ _ (hT.2.2.2.2.2.2.2.1)]; exact hT.2.2.2.2.2.2.1)), (hT.2.2.2.2.2.2.2.1), (fun q0_ => (own_setT (hT.2.2.2.2.2.2.2.2.1 (by rw [up 6 5 (by decide)] at q0_; exact q0_)) (hT.2.1 hl_) (by decide))), (fun _q0_ => setRow_heap _ _ _ _ _ _ (hT.2.1 hl_))⟩, fun _ _ _ => rfl⟩
          | k_ + 7, h_ => exact absurd h_ (by simp)
        rintro l_ _ a X11 h1 h2 h3 h4 hall hT
        clear BB
        clear F7
        clear FO
        clear Fge7
        clear Fge12
        clear Fn12F7
        clear F12
        clear Fn7F12
        obtain ⟨BB, F7, FO, Fge7, Fge12, Fn12F7, F12, Fn7F12, FO2, F7s⟩ := hT
        clear F7
        clear FO
        replace Fge7 : (V.heap.size ≤ g7) := Fge7
        replace Fge12 : (V.heap.size ≤ g12) := Fge12
        replace Fn12F7 : (g7 ≠ g12) := Fn12F7
        replace F12 : X11.heap[g12]? = some (.cells (tpC p l (dN p l (plA p l bs i) (bs i))) 26) := F12
        replace Fn7F12 : (g12 ≠ g7) := Fn7F12
        replace FO2 : (X11.ownsRow V.heap.size 3 1 (.slice (some ⟨g8, 0, none⟩) n n) n (intsL n (fun j => if j < (i + 1) then (dA p l bs j : Int) else 0))) := FO2 (hall 5 (by decide))
        replace F7s : X11.heap[g7]? = some (.cells (tpC p l (dN p l (plA p l bs i) (bs i))) 26) := F7s (hall 6 (by decide))
        clear hall
        replace t7 := (h3 7 (by decide)).trans t7
        replace t8 := (h3 8 (by decide)).trans t8
        replace t22 := (h3 22 (by decide)).trans t22
        replace t23 := (h3 23 (by decide)).trans t23
        replace t24 := (h3 24 (by decide)).trans t24
        replace A := (⟨h1, h2.trans A.2⟩ : a.tmps.size = 48 ∧ a.defers = [])
        clear h1 h2 h3 h4
        clear t9 t11 t12
        refine wp_region_sq (σ := Unit) 48 [(0, 44), (1, 24)] (fun j_ s X => match j_ with | 0 => Below V.heap.size V X ∧ (V.heap.size ≤ g7) ∧ (V.heap.size ≤ g12) ∧ (g7 ≠ g12) ∧ X.heap[g12]? = some (.cells (tpC p l (dN p l (plA p l bs i) (bs i))) 26) ∧ (g12 ≠ g7) ∧ (X.ownsRow V.heap.size 3 1 (.slice (some ⟨g8, 0, none⟩) n n) n (intsL n (fun j => if j < (i + 1) then (dA p l bs j : Int) else 0))) ∧ X.heap[g7]? = some (.cells (tpC p l (dN p l (plA p l bs i) (bs i))) 26) | 1 => Below V.heap.size V X ∧ (V.heap.size ≤ g7) ∧ (V.heap.size ≤ g12) ∧ (g7 ≠ g12) ∧ X.heap[g12]? = some (.cells (tpC p l (dN p l (plA p l bs i) (bs i))) 26) ∧ (g12 ≠ g7) ∧ (X.ownsRow V.heap.size 3 1 (.slice (some ⟨g8, 0, none⟩) n n) n (intsL n (fun j => if j < (i + 1) then (dA p l bs j : Int) else 0))) ∧ X.heap[g7]? = some (.cells (tpC p l (dN p l (plA p l bs i) (bs i))) 26) | _ => Below V.heap.size V X ∧ (V.heap.size ≤ g7) ∧ (V.heap.size ≤ g12) ∧ (g7 ≠ g12) ∧ X.heap[g12]? = some (.cells (tpC p l (dN p l (plA p l bs i) (bs i))) 26) ∧ (g12 ≠ g7) ∧ (X.ownsRow V.heap.size 3 1 (.slice (some ⟨g8, 0, none⟩) n n) n (intsL n (fun j => if j < (i + 1) then (dA p l bs j : Int) else 0))) ∧ X.heap[g7]? = some (.cells (tpC p l (dN p l (plA p l bs i) (bs i))) 26)) (fun s => fun i_ => match i_ with | 0 => .int .i64 ((i + 1 : Nat) : Int) | 1 => .int .i64 ((i + 1 : Nat) : Int) | _ => undef) () A.1 (by kernel_rfl) (by decide) (by decide) ⟨BB, Fge7, Fge12, Fn12F7, F12, Fn7F12, FO2, F7s⟩ ?_ ?_
        · intro i_ hi_ s a X hf hv hn hS
          match i_, hi_ with
          | 0, _ => exact stepV rfl rfl (execAd8 (p := i) (q := 1) rfl ((hn 1 (by omega) _ rfl _ rfl).trans t24) rfl (by omega)) ⟨s, ⟨_, rfl, rfl⟩, hS, fun _ _ => rfl⟩
          | 1, _ => exact stepV rfl rfl (execMvB rfl (hv 0 (by omega) _ rfl _ rfl)) ⟨s, ⟨_, rfl, rfl⟩, hS, fun _ _ => rfl⟩
          | k_ + 2, h_ => exact absurd h_ (by simp)
        rintro _ a X12 h1 h2 h3 h4 hS
        clear BB
        clear Fge7
        clear Fge12
        clear Fn12F7
        clear F12
        clear Fn7F12
        clear FO2
        clear F7s
        replace hS : Below V.heap.size V X12 ∧ (V.heap.size ≤ g7) ∧ (V.heap.size ≤ g12) ∧ (g7 ≠ g12) ∧ X12.heap[g12]? = some (.cells (tpC p l (dN p l (plA p l bs i) (bs i))) 26) ∧ (g12 ≠ g7) ∧ (X12.ownsRow V.heap.size 3 1 (.slice (some ⟨g8, 0, none⟩) n n) n (intsL n (fun j => if j < (i + 1) then (dA p l bs j : Int) else 0))) ∧ X12.heap[g7]? = some (.cells (tpC p l (dN p l (plA p l bs i) (bs i))) 26) := hS
        obtain ⟨BB, Fge7, Fge12, Fn12F7, F12, Fn7F12, FO2, F7s⟩ := hS
        replace t7 := (h3 7 (by decide)).trans t7
        replace t8 := (h3 8 (by decide)).trans t8
        replace t22 := (h3 22 (by decide)).trans t22
        replace t23 := (h3 23 (by decide)).trans t23
        replace t24 : a.eval (.tmp 24) = .int .i64 ((i + 1 : Nat) : Int) := h4 1 _ rfl _ rfl
        replace A := (⟨h1, h2.trans A.2⟩ : a.tmps.size = 48 ∧ a.defers = [])
        clear h1 h2 h3 h4
        exact ⟨⟨i + 1, hlt, okA_succ hok hE0, A, t7, t8, t22, t23, t24, BB, F7s, FO2⟩, by show n - (intOf (a.eval (.tmp 24))).toNat < n - (intOf (Act.eval _ (.tmp 24))).toNat; rw [t24, e24]; show n - (i + 1) < n - i; omega⟩
      · rw [decide_eq_true hE0] at t37
        refine wp_cond_true t37 ?_
        refine wp_seq ?_
        refine wp_region_sq (σ := Unit) 48 [(0, 38), (1, 4), (2, 5), (3, 6)] (fun j_ s X => match j_ with | 0 => Below V.heap.size V X ∧ X.heap[g7]? = some (.cells (tpC p l (plA p l bs i)) 26) ∧ (X.ownsRow V.heap.size 3 1 (.slice (some ⟨g8, 0, none⟩) n n) n (intsL n (fun j => if j < i then (dA p l bs j : Int) else 0))) ∧ (V.heap.size ≤ g7) ∧ (V.heap.size ≤ g12) ∧ (g7 ≠ g12) ∧ X.heap[g12]? = some (.cells (tpC p (if dE p l (plA p l bs i) (bs i) = 0 then l else 0) (dN p l (plA p l bs i) (bs i))) 26) | 1 => Below V.heap.size V X ∧ X.heap[g7]? = some (.cells (tpC p l (plA p l bs i)) 26) ∧ (X.ownsRow V.heap.size 3 1 (.slice (some ⟨g8, 0, none⟩) n n) n (intsL n (fun j => if j < i then (dA p l bs j : Int) else 0))) ∧ (V.heap.size ≤ g7) ∧ (V.heap.size ≤ g12) ∧ (g7 ≠ g12) ∧ X.heap[g12]? = some (.cells (tpC p (if dE p l (plA p l bs i) (bs i) = 0 then l else 0) (dN p l (plA p l bs i) (bs i))) 26) | 2 => Below V.heap.size V X ∧ X.heap[g7]? = some (.cells (tpC p l (plA p l bs i)) 26) ∧ (X.ownsRow V.heap.size 3 1 (.slice (some ⟨g8, 0, none⟩) n n) n (intsL n (fun j => if j < i then (dA p l bs j : Int) else 0))) ∧ (V.heap.size ≤ g7) ∧ (V.heap.size ≤ g12) ∧ (g7 ≠ g12) ∧ X.heap[g12]? = some (.cells (tpC p (if dE p l (plA p l bs i) (bs i) = 0 then l else 0) (dN p l (plA p l bs i) (bs i))) 26) | 3 => Below V.heap.size V X ∧ X.heap[g7]? = some (.cells (tpC p l (plA p l bs i)) 26) ∧ (X.ownsRow V.heap.size 3 1 (.slice (some ⟨g8, 0, none⟩) n n) n (intsL n (fun j => if j < i then (dA p l bs j : Int) else 0))) ∧ (V.heap.size ≤ g7) ∧ (V.heap.size ≤ g12) ∧ (g7 ≠ g12) ∧ X.heap[g12]? = some (.cells (tpC p (if dE p l (plA p l bs i) (bs i) = 0 then l else 0) (dN p l (plA p l bs i) (bs i))) 26) | _ => Below V.heap.size V X ∧ X.heap[g7]? = some (.cells (tpC p l (plA p l bs i)) 26) ∧ (X.ownsRow V.heap.size 3 1 (.slice (some ⟨g8, 0, none⟩) n n) n (intsL n (fun j => if j < i then (dA p l bs j : Int) else 0))) ∧ (V.heap.size ≤ g7) ∧ (V.heap.size ≤ g12) ∧ (g7 ≠ g12) ∧ X.heap[g12]? = some (.cells (tpC p (if dE p l (plA p l bs i) (bs i) = 0 then l else 0) (dN p l (plA p l bs i) (bs i))) 26)) (fun s => fun i_ => match i_ with | 0 => .int .i64 ((dE p l (plA p l bs i) (bs i) : Nat) : Int) | 1 => .slice none 0 0 | 2 => .int .i64 ((0 : Nat) : Int) | 3 => .int .i64 ((dE p l (plA p l bs i) (bs i) : Nat) : Int) | _ => undef) () A.1 (by kernel_rfl) (by decide) (by decide) ⟨BB, F7, FO, Fge7, Fge12, Fn12F7, F12⟩ ?_ ?_
        · intro i_ hi_ s a X hf hv hn hS
          match i_, hi_ with
          | 0, _ => exact stepV rfl rfl (execMvB rfl ((hf 13 (by decide)).trans t13)) ⟨s, ⟨_, rfl, rfl⟩, hS, fun _ _ => rfl⟩
          | 1, _ => exact stepV rfl rfl (execAsgB rfl rfl) ⟨s, ⟨_, rfl, rfl⟩, hS, fun _ _ => rfl⟩
          | 2, _ => exact stepV rfl rfl (execAsgB rfl rfl) ⟨s, ⟨_, rfl, rfl⟩, hS, fun _ _ => rfl⟩
          | 3, _ => exact stepV rfl rfl (execAsgB rfl (hv 0 (by omega) _ rfl _ rfl)) ⟨s, ⟨_, rfl, rfl⟩, hS, fun _ _ => rfl⟩
          | k_ + 4, h_ => exact absurd h_ (by simp)
        rintro _ a X10 h1 h2 h3 h4 hS
        clear BB
        clear F7
        clear FO
        clear Fge7
        clear Fge12
        clear Fn12F7
        clear F12
        replace hS : Below V.heap.size V X10 ∧ X10.heap[g7]? = some (.cells (tpC p l (plA p l bs i)) 26) ∧ (X10.ownsRow V.heap.size 3 1 (.slice (some ⟨g8, 0, none⟩) n n) n (intsL n (fun j => if j < i then (dA p l bs j : Int) else 0))) ∧ (V.heap.size ≤ g7) ∧ (V.heap.size ≤ g12) ∧ (g7 ≠ g12) ∧ X10.heap[g12]? = some (.cells (tpC p (if dE p l (plA p l bs i) (bs i) = 0 then l else 0) (dN p l (plA p l bs i) (bs i))) 26) := hS
        obtain ⟨BB, F7, FO, Fge7, Fge12, Fn12F7, F12⟩ := hS
        have t4 : a.eval (.tmp 4) = .slice none 0 0 := h4 1 _ rfl _ rfl
        have t5 : a.eval (.tmp 5) = .int .i64 ((0 : Nat) : Int) := h4 2 _ rfl _ rfl
        have t6 : a.eval (.tmp 6) = .int .i64 ((dE p l (plA p l bs i) (bs i) : Nat) : Int) := h4 3 _ rfl _ rfl
        replace A := (⟨h1, h2.trans A.2⟩ : a.tmps.size = 48 ∧ a.defers = [])
        clear h1 h2 h3 h4
        clear t7 t8 t22 t23 t24 t9 t11 t12 t13
        have hE3 : dE p l (plA p l bs i) (bs i) = 3 := (dE_good (hno i hlt)).resolve_left hE0
        rw [hE3] at t6
        have hE : allE p l bs n = 3 := by unfold allE; rw [if_neg hw, if_neg (fun q => hE0 (okB_iff.1 q i hlt))]
        have hN : allN p l bs n = 0 := by unfold allN; rw [if_neg (by rw [hE]; decide)]
        have hK : allK p l bs n = 0 := by unfold allK; rw [if_neg (by rw [hE]; decide)]
        rw [hE, hN, hK]
        refine wp_ret ?_
        repeat (first | refine ret_in ?_ | refine ret_then ?_)
        refine bodyPost_ret (results_tmp3 rfl _ _ _) A.2 ⟨_, ?_, World.ownsRow_nil _ _ _ _, BB⟩
        show Ending.returned (.tuple #[a.eval (.tmp 4), a.eval (.tmp 5), a.eval (.tmp 6)]) = _
        rw [t4, t5, t6]
    · rw [decide_eq_false hlt] at t25
      refine wp_cond_false t25 ?_
      refine wp_exit ?_
      first | refine exit_in ?_ | refine exit_then (exit_in ?_) | refine exit_then (exit_then (exit_in ?_))
      clear t25
      have hin : i = n := by omega
      rw [hin] at hok F7
      rw [intsL_congr (g := fun i => (dA p l bs i : Int)) (fun j hj => if_pos (by omega))] at FO
      refine wp_seq ?_
      refine wp_region_sq (σ := Unit) 48 [(0, 45), (1, 46), (2, 47), (3, 4), (4, 5), (5, 6)] (fun j_ s X => match j_ with | 0 => Below V.heap.size V X ∧ X.heap[g7]? = some (.cells (tpC p l (plA p l bs n)) 26) ∧ (X.ownsRow V.heap.size 3 1 (.slice (some ⟨g8, 0, none⟩) n n) n (intsL n (fun i => (dA p l bs i : Int)))) ∧ (V.heap.size ≤ g7) | 1 => Below V.heap.size V X ∧ X.heap[g7]? = some (.cells (tpC p l (plA p l bs n)) 26) ∧ (X.ownsRow V.heap.size 3 1 (.slice (some ⟨g8, 0, none⟩) n n) n (intsL n (fun i => (dA p l bs i : Int)))) ∧ (V.heap.size ≤ g7) | 2 => Below V.heap.size V X ∧ X.heap[g7]? = some (.cells (tpC p l (plA p l bs n)) 26) ∧ (X.ownsRow V.heap.size 3 1 (.slice (some ⟨g8, 0, none⟩) n n) n (intsL n (fun i => (dA p l bs i : Int)))) ∧ (V.heap.size ≤ g7) | 3 => Below V.heap.size V X ∧ X.heap[g7]? = some (.cells (tpC p l (plA p l bs n)) 26) ∧ (X.ownsRow V.heap.size 3 1 (.slice (some ⟨g8, 0, none⟩) n n) n (intsL n (fun i => (dA p l bs i : Int)))) ∧ (V.heap.size ≤ g7) | 4 => Below V.heap.size V X ∧ X.heap[g7]? = some (.cells (tpC p l (plA p l bs n)) 26) ∧ (X.ownsRow V.heap.size 3 1 (.slice (some ⟨g8, 0, none⟩) n n) n (intsL n (fun i => (dA p l bs i : Int)))) ∧ (V.heap.size ≤ g7) | 5 => Below V.heap.size V X ∧ X.heap[g7]? = some (.cells (tpC p l (plA p l bs n)) 26) ∧ (X.ownsRow V.heap.size 3 1 (.slice (some ⟨g8, 0, none⟩) n n) n (intsL n (fun i => (dA p l bs i : Int)))) ∧ (V.heap.size ≤ g7) | _ => Below V.heap.size V X ∧ X.heap[g7]? = some (.cells (tpC p l (plA p l bs n)) 26) ∧ (X.ownsRow V.heap.size 3 1 (.slice (some ⟨g8, 0, none⟩) n n) n (intsL n (fun i => (dA p l bs i : Int)))) ∧ (V.heap.size ≤ g7)) (fun s => fun i_ => match i_ with | 0 => .slice (some ⟨g8, 0, none⟩) n n | 1 => .agg (tpC p l (plA p l bs n)) | 2 => .int .i64 (((plA p l bs n) : Nat) : Int) | 3 => .slice (some ⟨g8, 0, none⟩) n n | 4 => .int .i64 (((plA p l bs n) : Nat) : Int) | 5 => .int .i64 ((0 : Nat) : Int) | _ => undef) () A.1 (by kernel_rfl) (by decide) (by decide) ⟨BB, F7, FO, Fge7⟩ ?_ ?_
      · intro i_ hi_ s a X hf hv hn hS
        match i_, hi_ with
        | 0, _ => exact stepV rfl rfl (execMvB rfl ((hf 8 (by decide)).trans t8)) ⟨s, ⟨_, rfl, rfl⟩, hS, fun _ _ => rfl⟩
        | 1, _ => exact stepV rfl rfl (execLdTp rfl ((hf 7 (by decide)).trans t7) hS.2.1) ⟨s, ⟨_, rfl, rfl⟩, hS, fun _ _ => rfl⟩
        | 2, _ => exact stepC rfl rfl (execCall1 Try.func14 (by kernel_rfl) (by kernel_rfl) rfl (hv 1 (by omega) _ rfl _ rfl)) (used_any p l (plA p l bs n) X) fun e w' hh => ⟨_, hh.1, s, ⟨_, rfl, rfl⟩, ⟨(hS.1).trans ((hh.2).mono (hS.1).size), (on9 hS.2.1 hh.2), (ownD_below hS.2.2.1 hh.2), hS.2.2.2⟩, fun _ _ => rfl⟩
        | 3, _ => exact stepV rfl rfl (execAsgB rfl (hv 0 (by omega) _ rfl _ rfl)) ⟨s, ⟨_, rfl, rfl⟩, hS, fun _ _ => rfl⟩
        | 4, _ => exact stepV rfl rfl (execAsgB rfl (hv 2 (by omega) _ rfl _ rfl)) ⟨s, ⟨_, rfl, rfl⟩, hS, fun _ _ => rfl⟩
        | 5, _ => exact stepV rfl rfl (execAsgB rfl rfl) ⟨s, ⟨_, rfl, rfl⟩, hS, fun _ _ => rfl⟩
        | k_ + 6, h_ => exact absurd h_ (by simp)
      rintro _ a X13 h1 h2 h3 h4 hS
      clear BB
      clear F7
      clear FO
      clear Fge7
      replace hS : Below V.heap.size V X13 ∧ X13.heap[g7]? = some (.cells (tpC p l (plA p l bs n)) 26) ∧ (X13.ownsRow V.heap.size 3 1 (.slice (some ⟨g8, 0, none⟩) n n) n (intsL n (fun i => (dA p l bs i : Int)))) ∧ (V.heap.size ≤ g7) := hS
      obtain ⟨BB, F7, FO, Fge7⟩ := hS
      have t4 : a.eval (.tmp 4) = .slice (some ⟨g8, 0, none⟩) n n := h4 3 _ rfl _ rfl
      have t5 : a.eval (.tmp 5) = .int .i64 (((plA p l bs n) : Nat) : Int) := h4 4 _ rfl _ rfl
      have t6 : a.eval (.tmp 6) = .int .i64 ((0 : Nat) : Int) := h4 5 _ rfl _ rfl
      replace A := (⟨h1, h2.trans A.2⟩ : a.tmps.size = 48 ∧ a.defers = [])
      clear h1 h2 h3 h4
      clear t7 t8 t22 t23 t24
      have hE : allE p l bs n = 0 := by unfold allE; rw [if_neg hw, if_pos (okB_iff.2 hok)]
      have hN : allN p l bs n = n := by unfold allN; rw [if_pos hE]
      have hK : allK p l bs n = plA p l bs n := by unfold allK; rw [if_pos hE]
      rw [hE, hN, hK]
      refine wp_ret ?_
      refine bodyPost_ret (results_tmp3 rfl _ _ _) A.2 ⟨_, ?_, FO, BB⟩
      show Ending.returned (.tuple #[a.eval (.tmp 4), a.eval (.tmp 5), a.eval (.tmp 6)]) = _
      rw [t4, t5, t6]
end Go.Proofs.Ytpclecbhfjalnaa.Drw
