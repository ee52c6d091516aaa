import Derived.Test.YtdecmmcphcomhaaQ9c
namespace Go.Proofs.Ytdecmmcphcomhaa.Brd
open Go.RowKit Gf8 Aes By8 Cel Cf Tap Drw Prm
/- The law's apart. Written by tools/mkQ9d.py. -/

theorem updD_o {dd : Nat → Nat} {t k s : Nat} (h : s ≠ t) : updD dd t k s = dd s := if_neg h
theorem updD_at {dd : Nat → Nat} {t k : Nat} : updD dd t k t = dd t + k := if_pos rfl
theorem grow_dd {dd : Nat → Nat} {m i k b : Nat} (h : ∀ t, t < m → dd t ≤ b) (hi : dd i + k ≤ b) : ∀ t, t < m → updD dd i k t ≤ b := fun t ht => by
  by_cases e : t = i
  · subst e
    rw [updD_at]
    exact hi
  · rw [updD_o e]
    exact h t ht
theorem grow_fy {nn dd : Nat → Nat} {fy : Nat → Nat → Int} {m i k : Nat} (h : ∀ t, t < m → ∀ j, nn t ≤ j → j < nn t + dd t → fy t j = -2000 - (t : Int)) : ∀ t, t < m → ∀ j, nn t ≤ j → j < nn t + updD dd i k t → updG fy i (catI (nn i + dd i) (fy i) (fun _ => -2000 - (i : Int))) t j = -2000 - (t : Int) := fun t ht j h1 h2 => by
  by_cases e : t = i
  · subst e
    rw [show updG fy t (catI (nn t + dd t) (fy t) (fun _ => -2000 - (t : Int))) t = catI (nn t + dd t) (fy t) (fun _ => -2000 - (t : Int)) from if_pos rfl]
    unfold catI
    by_cases q : j < nn t + dd t
    · rw [if_pos q]
      exact h t ht j h1 q
    · rw [if_neg q]
  · rw [updD_o e] at h2
    rw [show updG fy i (catI (nn i + dd i) (fy i) (fun _ => -2000 - (i : Int))) t = fy t from if_neg e]
    exact h t ht j h1 h2
theorem tail_fits {i m j : Nat} (hi : i ≤ m) (hm : m ≤ 1000) : ∀ l, l < j → -9223372036854775808 ≤ (fun l => if l < j then -2000 - (i : Int) else 0) l ∧ (fun l => if l < j then -2000 - (i : Int) else 0) l < 9223372036854775808 := fun l hl => by
  show -9223372036854775808 ≤ (if l < j then -2000 - (i : Int) else 0) ∧ (if l < j then -2000 - (i : Int) else 0) < 9223372036854775808
  rw [if_pos hl]
  omega
theorem shp3 {W : World} {B n s : Nat} {t : TypeId} {v : Value} {xs : List Value} (h : W.ownsRow B t s v n xs) : ∃ g n c, v = .slice g n c := by
  rcases h.2 with ⟨rfl, rfl⟩ | ⟨g, cap, cur, rfl, _⟩
  · exact ⟨_, _, _, rfl⟩
  · exact ⟨_, _, _, rfl⟩
theorem execStLI {o : Oper} {a : Act} {w : World} {x v : Operand} {b k : Nat} {u old : Value} (ho : o.op = .store 23 x v) (hx : a.eval x = .pointer (some ⟨b, k, none⟩)) (hv : a.eval v = u) (hu : ∃ g n c, u = .slice g n c) (hc : w.cell? ⟨b, k, none⟩ = some old) (hf : w.frozen? ⟨b, k, none⟩ = false) : (execOp a.eval o).run Try.prog w = .ok .skip (w.setCell ⟨b, k, none⟩ u) := by
  obtain ⟨g, n, c, rfl⟩ := hu
  unfold execOp
  simp only [ho, hx, hv]
  simp [go_sem, hc, hf]
theorem ownL_setI {W : World} {B n g cap k : Nat} {y : Nat → Value} {z : Value} (h : W.ownsRow B 23 1 (.slice (some ⟨g, 0, none⟩) n cap) n (lL y n)) : (W.setCell ⟨g, 0 + k, none⟩ z).ownsRow B 23 1 (.slice (some ⟨g, 0, none⟩) n cap) n (lL (updX y k z) n) := by
  rw [Nat.zero_add]
  refine ⟨by rw [lL_len, Nat.mul_one], ?_⟩
  rcases h.2 with ⟨e, _⟩ | ⟨g', cap', cur, e, hB, hg, h1, h2, h3, h4⟩
  · cases e
  · injection e with e1 e2 e3
    injection e1 with e1
    injection e1 with e1 _ _
    subst e1
    subst e3
    refine Or.inr ⟨g, cap, cur.setIfInBounds k z, rfl, hB, heap4 _ hg, h1, h2, by simpa using h3, ?_⟩
    apply List.ext_getElem?
    intro j
    have h5 : (cur.toList.take (n * 1))[j]? = (lL y n)[j]? := by rw [h4]
    by_cases hj : j < n
    · rw [List.getElem?_take_of_lt (by omega), lL_get _ _ _ hj] at h5
      rw [List.getElem?_take_of_lt (by omega), lL_get _ _ _ hj, Array.getElem?_toList, Array.getElem?_setIfInBounds]
      by_cases hk : k = j
      · subst hk
        rw [if_pos rfl, if_pos (by simp at h3; omega), updX_at]
      · rw [if_neg hk, show updX y k z j = y j from if_neg (fun q => hk q.symm), ← Array.getElem?_toList]
        exact h5
    · rw [List.getElem?_eq_none (by simp; omega), List.getElem?_eq_none (by rw [lL_len]; omega)]
set_option maxRecDepth 100000 in
set_option maxHeartbeats 4000000 in
/-- apart, from region 32: all is looked at. -/
theorem apart32 (U V : World) (m gl cl : Nat) (x : Nat → Value) (nn : Nat → Nat) (C : Array Value) (hm : m ≤ 1000) (hC : ∀ t, t < m → C[t]? = some (x t)) (hnn : ∀ t, t < m → nn t ≤ 17592186044000) (S : World) (y z : Nat → Value) (dd : Nat → Nat) (fx fy : Nat → Nat → Int) (gm bm : Nat) (hfx : ∀ t, t < m → ∀ j, j < nn t → fx t j = -1000 - (t : Int)) (hfy : ∀ t, t < m → ∀ j, nn t ≤ j → j < nn t + dd t → fy t j = -2000 - (t : Int)) (hdd : ∀ t, t < m → dd t ≤ 108) (hz : ∀ t, t < m → z t = y t) (BB : Below U.heap.size U S) (FA : (AS U V S m x y nn dd fx fy gl C)) (FM : (S.ownsRow bm 23 1 (.slice (some ⟨gm, 0, none⟩) m m) m (lL z m)))
    (a : Act) (A : a.tmps.size = 136 ∧ a.defers = []) (t0 : a.eval (.tmp 0) = .slice (some ⟨gl, 0, none⟩) m cl) (t6 : a.eval (.tmp 6) = .slice (some ⟨gm, 0, none⟩) m m) :
    (findR 32 (Try.f15.body.getD .skip)).wp Try.prog (bodyPost Try.prog Try.f15 fun e w' => e = .returned (.bool true) ∧ Saved (GxI m x) V w' ∧ Below U.heap.size U w') a S := by
  refine wp_seq ?_
  refine wp_seq ?_
  refine wp_region_sq (σ := Unit) 136 [(0, 87), (1, 88), (2, 89)] (fun j_ s X => match j_ with | 0 => Below U.heap.size U X ∧ (AS U V X m x y nn dd fx fy gl C) ∧ (X.ownsRow bm 23 1 (.slice (some ⟨gm, 0, none⟩) m m) m (lL z m)) | 1 => Below U.heap.size U X ∧ (AS U V X m x y nn dd fx fy gl C) ∧ (X.ownsRow bm 23 1 (.slice (some ⟨gm, 0, none⟩) m m) m (lL z m)) | 2 => Below U.heap.size U X ∧ (AS U V X m x y nn dd fx fy gl C) ∧ (X.ownsRow bm 23 1 (.slice (some ⟨gm, 0, none⟩) m m) m (lL z m)) | _ => Below U.heap.size U X ∧ (AS U V X m x y nn dd fx fy gl C) ∧ (X.ownsRow bm 23 1 (.slice (some ⟨gm, 0, none⟩) m m) m (lL z m))) (fun s => fun i_ => match i_ with | 0 => .slice (some ⟨gl, 0, none⟩) m cl | 1 => .int .i64 ((m : Nat) : Int) | 2 => .int .i64 ((0 : Nat) : Int) | _ => undef) () A.1 (by kernel_rfl) (by decide) (by decide) ⟨BB, FA, FM⟩ ?_ ?_
  · intro i_ hi_ s a X hf hv hn hS
    match i_, hi_ with
    | 0, _ => exact stepV rfl rfl (execMvB rfl ((hf 0 (by decide)).trans t0)) ⟨s, ⟨_, rfl, rfl⟩, hS, fun _ _ => rfl⟩
    | 1, _ => exact stepV rfl rfl (execLenLI (len := m) rfl (hv 0 (by omega) _ rfl _ rfl) ⟨_, _, rfl⟩) ⟨s, ⟨_, rfl, rfl⟩, hS, fun _ _ => rfl⟩
    | 2, _ => exact stepV rfl rfl (execMvB rfl rfl) ⟨s, ⟨_, rfl, rfl⟩, hS, fun _ _ => rfl⟩
    | k_ + 3, h_ => exact absurd h_ (by simp)
  rintro _ a X32 h1 h2 h3 h4 hS
  clear BB
  clear FA
  clear FM
  replace hS : Below U.heap.size U X32 ∧ (AS U V X32 m x y nn dd fx fy gl C) ∧ (X32.ownsRow bm 23 1 (.slice (some ⟨gm, 0, none⟩) m m) m (lL z m)) := hS
  obtain ⟨BB, FA, FM⟩ := hS
  replace t6 := (h3 6 (by decide)).trans t6
  have t87 : a.eval (.tmp 87) = .slice (some ⟨gl, 0, none⟩) m cl := h4 0 _ rfl _ rfl
  have t88 : a.eval (.tmp 88) = .int .i64 ((m : Nat) : Int) := h4 1 _ rfl _ rfl
  have t89 : a.eval (.tmp 89) = .int .i64 ((0 : Nat) : Int) := h4 2 _ rfl _ rfl
  replace A := (⟨h1, h2.trans A.2⟩ : a.tmps.size = 136 ∧ a.defers = [])
  clear h1 h2 h3 h4
  clear t0
  refine wp_block ?_
  refine wp_loop (fun a W => ∃ (i : Nat), i ≤ m ∧ (a.tmps.size = 136 ∧ a.defers = []) ∧ a.eval (.tmp 6) = .slice (some ⟨gm, 0, none⟩) m m ∧ a.eval (.tmp 87) = .slice (some ⟨gl, 0, none⟩) m cl ∧ a.eval (.tmp 88) = .int .i64 ((m : Nat) : Int) ∧ a.eval (.tmp 89) = .int .i64 ((i : Nat) : Int) ∧ Below U.heap.size U W ∧ (AS U V W m x y nn dd fx fy gl C) ∧ (W.ownsRow bm 23 1 (.slice (some ⟨gm, 0, none⟩) m m) m (lL z m))) (fun a _ => m - (intOf (a.eval (.tmp 89))).toNat) ⟨0, Nat.zero_le _, A, t6, t87, t88, t89, BB, FA, FM⟩ ?_
  clear A t6 t87 t88 t89 BB FA FM a
  rintro a XL33 ⟨i, hi, A, t6, t87, t88, t89, BB, FA, FM⟩
  have esi := t89
  refine wp_seq ?_
  refine wp_region_sq (σ := Unit) 136 [(0, 90)] (fun j_ s X => match j_ with | 0 => Below U.heap.size U X ∧ (AS U V X m x y nn dd fx fy gl C) ∧ (X.ownsRow bm 23 1 (.slice (some ⟨gm, 0, none⟩) m m) m (lL z m)) | _ => Below U.heap.size U X ∧ (AS U V X m x y nn dd fx fy gl C) ∧ (X.ownsRow bm 23 1 (.slice (some ⟨gm, 0, none⟩) m m) m (lL z m))) (fun s => fun i_ => match i_ with | 0 => .bool (decide (i < m)) | _ => undef) () A.1 (by kernel_rfl) (by decide) (by decide) ⟨BB, FA, FM⟩ ?_ ?_
  · intro i_ hi_ s a X hf hv hn hS
    match i_, hi_ with
    | 0, _ => exact stepV rfl rfl (execLtW (p := i) (q := m) rfl ((hf 89 (by decide)).trans t89) ((hf 88 (by decide)).trans t88)) ⟨s, ⟨_, rfl, rfl⟩, hS, fun _ _ => rfl⟩
    | k_ + 1, h_ => exact absurd h_ (by simp)
  rintro _ a X33 h1 h2 h3 h4 hS
  clear BB
  clear FA
  clear FM
  replace hS : Below U.heap.size U X33 ∧ (AS U V X33 m x y nn dd fx fy gl C) ∧ (X33.ownsRow bm 23 1 (.slice (some ⟨gm, 0, none⟩) m m) m (lL z m)) := hS
  obtain ⟨BB, FA, FM⟩ := hS
  replace t6 := (h3 6 (by decide)).trans t6
  replace t87 := (h3 87 (by decide)).trans t87
  replace t88 := (h3 88 (by decide)).trans t88
  replace t89 := (h3 89 (by decide)).trans t89
  have t90 : a.eval (.tmp 90) = .bool (decide (i < m)) := h4 0 _ rfl _ rfl
  replace A := (⟨h1, h2.trans A.2⟩ : a.tmps.size = 136 ∧ a.defers = [])
  clear h1 h2 h3 h4
  refine wp_seq ?_
  by_cases lti : i < m
  · rw [decide_eq_true lti] at t90
    refine wp_cond_true t90 ?_
    refine wp_skip ?_
    clear t90
    refine wp_seq ?_
    refine wp_block ?_
    have hni := hnn i lti
    have hdi := hdd i lti
    refine wp_seq ?_
    refine wp_region_sq (σ := Unit) 136 [(0, 91), (1, 92), (2, 93), (3, 14), (4, 15)] (fun j_ s X => match j_ with | 0 => Below U.heap.size U X ∧ (AS U V X m x y nn dd fx fy gl C) ∧ (X.ownsRow bm 23 1 (.slice (some ⟨gm, 0, none⟩) m m) m (lL z m)) | 1 => Below U.heap.size U X ∧ (AS U V X m x y nn dd fx fy gl C) ∧ (X.ownsRow bm 23 1 (.slice (some ⟨gm, 0, none⟩) m m) m (lL z m)) | 2 => Below U.heap.size U X ∧ (AS U V X m x y nn dd fx fy gl C) ∧ (X.ownsRow bm 23 1 (.slice (some ⟨gm, 0, none⟩) m m) m (lL z m)) | 3 => Below U.heap.size U X ∧ (AS U V X m x y nn dd fx fy gl C) ∧ (X.ownsRow bm 23 1 (.slice (some ⟨gm, 0, none⟩) m m) m (lL z m)) | 4 => Below U.heap.size U X ∧ (AS U V X m x y nn dd fx fy gl C) ∧ (X.ownsRow bm 23 1 (.slice (some ⟨gm, 0, none⟩) m m) m (lL z m)) | _ => Below U.heap.size U X ∧ (AS U V X m x y nn dd fx fy gl C) ∧ (X.ownsRow bm 23 1 (.slice (some ⟨gm, 0, none⟩) m m) m (lL z m))) (fun s => fun i_ => match i_ with | 0 => .int .i64 ((i : Nat) : Int) | 1 => .pointer (some ⟨gl, 0 + i, none⟩) | 2 => x i | 3 => .int .i64 ((i : Nat) : Int) | 4 => x i | _ => undef) () A.1 (by kernel_rfl) (by decide) (by decide) ⟨BB, FA, FM⟩ ?_ ?_
    · intro i_ hi_ s a X hf hv hn hS
      match i_, hi_ with
      | 0, _ => exact stepV rfl rfl (execMvB rfl ((hf 89 (by decide)).trans t89)) ⟨s, ⟨_, rfl, rfl⟩, hS, fun _ _ => rfl⟩
      | 1, _ => exact stepV rfl rfl (execIdxLI (k := i) rfl ((hf 87 (by decide)).trans t87) ((hf 89 (by decide)).trans t89) lti) ⟨s, ⟨_, rfl, rfl⟩, hS, fun _ _ => rfl⟩
      | 2, _ => exact stepV rfl rfl (execLdLI (v := x i) rfl (hv 1 (by omega) _ rfl _ rfl) (hS.2.1.cell (hC i lti))) ⟨s, ⟨_, rfl, rfl⟩, hS, fun _ _ => rfl⟩
      | 3, _ => exact stepV rfl rfl (execAsgB rfl (hv 0 (by omega) _ rfl _ rfl)) ⟨s, ⟨_, rfl, rfl⟩, hS, fun _ _ => rfl⟩
      | 4, _ => exact stepV rfl rfl (execAsgB rfl (hv 2 (by omega) _ rfl _ rfl)) ⟨s, ⟨_, rfl, rfl⟩, hS, fun _ _ => rfl⟩
      | k_ + 5, h_ => exact absurd h_ (by simp)
    rintro _ a X34 h1 h2 h3 h4 hS
    clear BB
    clear FA
    clear FM
    replace hS : Below U.heap.size U X34 ∧ (AS U V X34 m x y nn dd fx fy gl C) ∧ (X34.ownsRow bm 23 1 (.slice (some ⟨gm, 0, none⟩) m m) m (lL z m)) := hS
    obtain ⟨BB, FA, FM⟩ := hS
    replace t6 := (h3 6 (by decide)).trans t6
    replace t87 := (h3 87 (by decide)).trans t87
    replace t88 := (h3 88 (by decide)).trans t88
    replace t89 := (h3 89 (by decide)).trans t89
    have t14 : a.eval (.tmp 14) = .int .i64 ((i : Nat) : Int) := h4 3 _ rfl _ rfl
    have t15 : a.eval (.tmp 15) = x i := h4 4 _ rfl _ rfl
    replace A := (⟨h1, h2.trans A.2⟩ : a.tmps.size = 136 ∧ a.defers = [])
    clear h1 h2 h3 h4
    refine wp_seq ?_
    refine wp_region_sq (σ := Unit) 136 [(0, 94), (1, 95), (2, 96), (3, 97), (4, 98), (5, 99)] (fun j_ s X => match j_ with | 0 => Below U.heap.size U X ∧ (AS U V X m x y nn dd fx fy gl C) ∧ (X.ownsRow bm 23 1 (.slice (some ⟨gm, 0, none⟩) m m) m (lL z m)) | 1 => Below U.heap.size U X ∧ (AS U V X m x y nn dd fx fy gl C) ∧ (X.ownsRow bm 23 1 (.slice (some ⟨gm, 0, none⟩) m m) m (lL z m)) | 2 => Below U.heap.size U X ∧ (AS U V X m x y nn dd fx fy gl C) ∧ (X.ownsRow bm 23 1 (.slice (some ⟨gm, 0, none⟩) m m) m (lL z m)) | 3 => Below U.heap.size U X ∧ (AS U V X m x y nn dd fx fy gl C) ∧ (X.ownsRow bm 23 1 (.slice (some ⟨gm, 0, none⟩) m m) m (lL z m)) | 4 => Below U.heap.size U X ∧ (AS U V X m x y nn dd fx fy gl C) ∧ (X.ownsRow bm 23 1 (.slice (some ⟨gm, 0, none⟩) m m) m (lL z m)) | 5 => Below U.heap.size U X ∧ (AS U V X m x y nn dd fx fy gl C) ∧ (X.ownsRow bm 23 1 (.slice (some ⟨gm, 0, none⟩) m m) m (lL z m)) | _ => Below U.heap.size U X ∧ (AS U V X m x y nn dd fx fy gl C) ∧ (X.ownsRow bm 23 1 (.slice (some ⟨gm, 0, none⟩) m m) m (lL z m))) (fun s => fun i_ => match i_ with | 0 => .slice (some ⟨gm, 0, none⟩) m m | 1 => .int .i64 ((i : Nat) : Int) | 2 => .pointer (some ⟨gm, 0 + i, none⟩) | 3 => y i | 4 => .int .i64 ((nn i + dd i : Nat) : Int) | 5 => .int .i64 ((0 : Nat) : Int) | _ => undef) () A.1 (by kernel_rfl) (by decide) (by decide) ⟨BB, FA, FM⟩ ?_ ?_
    · intro i_ hi_ s a X hf hv hn hS
      match i_, hi_ with
      | 0, _ => exact stepV rfl rfl (execMvB rfl ((hf 6 (by decide)).trans t6)) ⟨s, ⟨_, rfl, rfl⟩, hS, fun _ _ => rfl⟩
      | 1, _ => exact stepV rfl rfl (execMvB rfl ((hf 14 (by decide)).trans t14)) ⟨s, ⟨_, rfl, rfl⟩, hS, fun _ _ => rfl⟩
      | 2, _ => exact stepV rfl rfl (execIdxLI (k := i) rfl (hv 0 (by omega) _ rfl _ rfl) (hv 1 (by omega) _ rfl _ rfl) lti) ⟨s, ⟨_, rfl, rfl⟩, hS, fun _ _ => rfl⟩
      | 3, _ => exact stepV rfl rfl (execLdLI (v := y i) rfl (hv 2 (by omega) _ rfl _ rfl) (by rw [ownL_cellI hS.2.2 lti, hz i lti])) ⟨s, ⟨_, rfl, rfl⟩, hS, fun _ _ => rfl⟩
      | 4, _ => exact stepV rfl rfl (execLenI (len := nn i + dd i) rfl (hv 3 (by omega) _ rfl _ rfl) (shpO (hS.2.1.gp.ry i lti))) ⟨s, ⟨_, rfl, rfl⟩, hS, fun _ _ => rfl⟩
      | 5, _ => exact stepV rfl rfl (execMvB rfl rfl) ⟨s, ⟨_, rfl, rfl⟩, hS, fun _ _ => rfl⟩
      | k_ + 6, h_ => exact absurd h_ (by simp)
    rintro _ a X35 h1 h2 h3 h4 hS
    clear BB
    clear FA
    clear FM
    replace hS : Below U.heap.size U X35 ∧ (AS U V X35 m x y nn dd fx fy gl C) ∧ (X35.ownsRow bm 23 1 (.slice (some ⟨gm, 0, none⟩) m m) m (lL z m)) := hS
    obtain ⟨BB, FA, FM⟩ := hS
    replace t6 := (h3 6 (by decide)).trans t6
    replace t87 := (h3 87 (by decide)).trans t87
    replace t88 := (h3 88 (by decide)).trans t88
    replace t89 := (h3 89 (by decide)).trans t89
    replace t14 := (h3 14 (by decide)).trans t14
    replace t15 := (h3 15 (by decide)).trans t15
    have t97 : a.eval (.tmp 97) = y i := h4 3 _ rfl _ rfl
    have t98 : a.eval (.tmp 98) = .int .i64 ((nn i + dd i : Nat) : Int) := h4 4 _ rfl _ rfl
    have t99 : a.eval (.tmp 99) = .int .i64 ((0 : Nat) : Int) := h4 5 _ rfl _ rfl
    replace A := (⟨h1, h2.trans A.2⟩ : a.tmps.size = 136 ∧ a.defers = [])
    clear h1 h2 h3 h4
    refine wp_block ?_
    refine wp_loop (fun a W => ∃ (j : Nat), j ≤ nn i + dd i ∧ (a.tmps.size = 136 ∧ a.defers = []) ∧ a.eval (.tmp 6) = .slice (some ⟨gm, 0, none⟩) m m ∧ a.eval (.tmp 87) = .slice (some ⟨gl, 0, none⟩) m cl ∧ a.eval (.tmp 88) = .int .i64 ((m : Nat) : Int) ∧ a.eval (.tmp 89) = .int .i64 ((i : Nat) : Int) ∧ a.eval (.tmp 14) = .int .i64 ((i : Nat) : Int) ∧ a.eval (.tmp 15) = x i ∧ a.eval (.tmp 97) = y i ∧ a.eval (.tmp 98) = .int .i64 ((nn i + dd i : Nat) : Int) ∧ a.eval (.tmp 99) = .int .i64 ((j : Nat) : Int) ∧ Below U.heap.size U W ∧ (AS U V W m x y nn dd fx fy gl C) ∧ (W.ownsRow bm 23 1 (.slice (some ⟨gm, 0, none⟩) m m) m (lL z m))) (fun a _ => nn i + dd i - (intOf (a.eval (.tmp 99))).toNat) ⟨0, Nat.zero_le _, A, t6, t87, t88, t89, t14, t15, t97, t98, t99, BB, FA, FM⟩ ?_
    clear A t6 t87 t88 t89 t14 t15 t97 t98 t99 BB FA FM a
    rintro a XL36 ⟨j, hj, A, t6, t87, t88, t89, t14, t15, t97, t98, t99, BB, FA, FM⟩
    have esj := t99
    refine wp_seq ?_
    refine wp_region_sq (σ := Unit) 136 [(0, 100)] (fun j_ s X => match j_ with | 0 => Below U.heap.size U X ∧ (AS U V X m x y nn dd fx fy gl C) ∧ (X.ownsRow bm 23 1 (.slice (some ⟨gm, 0, none⟩) m m) m (lL z m)) | _ => Below U.heap.size U X ∧ (AS U V X m x y nn dd fx fy gl C) ∧ (X.ownsRow bm 23 1 (.slice (some ⟨gm, 0, none⟩) m m) m (lL z m))) (fun s => fun i_ => match i_ with | 0 => .bool (decide (j < nn i + dd i)) | _ => undef) () A.1 (by kernel_rfl) (by decide) (by decide) ⟨BB, FA, FM⟩ ?_ ?_
    · intro i_ hi_ s a X hf hv hn hS
      match i_, hi_ with
      | 0, _ => exact stepV rfl rfl (execLtW (p := j) (q := nn i + dd i) rfl ((hf 99 (by decide)).trans t99) ((hf 98 (by decide)).trans t98)) ⟨s, ⟨_, rfl, rfl⟩, hS, fun _ _ => rfl⟩
      | k_ + 1, h_ => exact absurd h_ (by simp)
    rintro _ a X36 h1 h2 h3 h4 hS
    clear BB
    clear FA
    clear FM
    replace hS : Below U.heap.size U X36 ∧ (AS U V X36 m x y nn dd fx fy gl C) ∧ (X36.ownsRow bm 23 1 (.slice (some ⟨gm, 0, none⟩) m m) m (lL z m)) := hS
    obtain ⟨BB, FA, FM⟩ := hS
    replace t6 := (h3 6 (by decide)).trans t6
    replace t87 := (h3 87 (by decide)).trans t87
    replace t88 := (h3 88 (by decide)).trans t88
    replace t89 := (h3 89 (by decide)).trans t89
    replace t14 := (h3 14 (by decide)).trans t14
    replace t15 := (h3 15 (by decide)).trans t15
    replace t97 := (h3 97 (by decide)).trans t97
    replace t98 := (h3 98 (by decide)).trans t98
    replace t99 := (h3 99 (by decide)).trans t99
    have t100 : a.eval (.tmp 100) = .bool (decide (j < nn i + dd i)) := h4 0 _ rfl _ rfl
    replace A := (⟨h1, h2.trans A.2⟩ : a.tmps.size = 136 ∧ a.defers = [])
    clear h1 h2 h3 h4
    refine wp_seq ?_
    by_cases ltj : j < nn i + dd i
    · rw [decide_eq_true ltj] at t100
      refine wp_cond_true t100 ?_
      refine wp_skip ?_
      clear t100
      refine wp_seq ?_
      refine wp_block ?_
      obtain ⟨gy, cy, ey, _, _⟩ := ownL_some9 (FA.gp.ry i lti) (by omega)
      by_cases hjn : j < nn i
      · obtain ⟨gx, cx, ex, _, _⟩ := ownL_some9 (FA.gp.rx i lti) (by omega)
        refine wp_seq ?_
        refine wp_region_sq (σ := Unit) 136 [(0, 101), (1, 102), (2, 103), (3, 16), (4, 17)] (fun j_ s X => match j_ with | 0 => Below U.heap.size U X ∧ (AS U V X m x y nn dd fx fy gl C) ∧ (X.ownsRow bm 23 1 (.slice (some ⟨gm, 0, none⟩) m m) m (lL z m)) | 1 => Below U.heap.size U X ∧ (AS U V X m x y nn dd fx fy gl C) ∧ (X.ownsRow bm 23 1 (.slice (some ⟨gm, 0, none⟩) m m) m (lL z m)) | 2 => Below U.heap.size U X ∧ (AS U V X m x y nn dd fx fy gl C) ∧ (X.ownsRow bm 23 1 (.slice (some ⟨gm, 0, none⟩) m m) m (lL z m)) | 3 => Below U.heap.size U X ∧ (AS U V X m x y nn dd fx fy gl C) ∧ (X.ownsRow bm 23 1 (.slice (some ⟨gm, 0, none⟩) m m) m (lL z m)) | 4 => Below U.heap.size U X ∧ (AS U V X m x y nn dd fx fy gl C) ∧ (X.ownsRow bm 23 1 (.slice (some ⟨gm, 0, none⟩) m m) m (lL z m)) | _ => Below U.heap.size U X ∧ (AS U V X m x y nn dd fx fy gl C) ∧ (X.ownsRow bm 23 1 (.slice (some ⟨gm, 0, none⟩) m m) m (lL z m))) (fun s => fun i_ => match i_ with | 0 => .int .i64 ((j : Nat) : Int) | 1 => .pointer (some ⟨gy, 0 + j, none⟩) | 2 => .int .i64 (-1000 - (i : Int)) | 3 => .int .i64 ((j : Nat) : Int) | 4 => .int .i64 (-1000 - (i : Int)) | _ => undef) () A.1 (by kernel_rfl) (by decide) (by decide) ⟨BB, FA, FM⟩ ?_ ?_
        · intro i_ hi_ s a X hf hv hn hS
          match i_, hi_ with
          | 0, _ => exact stepV rfl rfl (execMvB rfl ((hf 99 (by decide)).trans t99)) ⟨s, ⟨_, rfl, rfl⟩, hS, fun _ _ => rfl⟩
          | 1, _ => exact stepV rfl rfl (execIdxN (k := j) rfl (((hf 97 (by decide)).trans t97).trans ey) ((hf 99 (by decide)).trans t99) ltj) ⟨s, ⟨_, rfl, rfl⟩, hS, fun _ _ => rfl⟩
          | 2, _ => exact stepV rfl rfl (execLd3 rfl (hv 1 (by omega) _ rfl _ rfl) (by rw [(own_cellI (by have h_ := hS.2.1.gp.ry i lti; rw [ey] at h_; exact h_) ltj).1, FA.gp.lo i lti j hjn, hfx i lti j hjn])) ⟨s, ⟨_, rfl, rfl⟩, hS, fun _ _ => rfl⟩
          | 3, _ => exact stepV rfl rfl (execAsgB rfl (hv 0 (by omega) _ rfl _ rfl)) ⟨s, ⟨_, rfl, rfl⟩, hS, fun _ _ => rfl⟩
          | 4, _ => exact stepV rfl rfl (execAsgB rfl (hv 2 (by omega) _ rfl _ rfl)) ⟨s, ⟨_, rfl, rfl⟩, hS, fun _ _ => rfl⟩
          | k_ + 5, h_ => exact absurd h_ (by simp)
        rintro _ a X37 h1 h2 h3 h4 hS
        clear BB
        clear FA
        clear FM
        replace hS : Below U.heap.size U X37 ∧ (AS U V X37 m x y nn dd fx fy gl C) ∧ (X37.ownsRow bm 23 1 (.slice (some ⟨gm, 0, none⟩) m m) m (lL z m)) := hS
        obtain ⟨BB, FA, FM⟩ := hS
        replace t6 := (h3 6 (by decide)).trans t6
        replace t87 := (h3 87 (by decide)).trans t87
        replace t88 := (h3 88 (by decide)).trans t88
        replace t89 := (h3 89 (by decide)).trans t89
        replace t14 := (h3 14 (by decide)).trans t14
        replace t15 := (h3 15 (by decide)).trans t15
        replace t97 := (h3 97 (by decide)).trans t97
        replace t98 := (h3 98 (by decide)).trans t98
        replace t99 := (h3 99 (by decide)).trans t99
        have t16 : a.eval (.tmp 16) = .int .i64 ((j : Nat) : Int) := h4 3 _ rfl _ rfl
        have t17 : a.eval (.tmp 17) = .int .i64 (-1000 - (i : Int)) := h4 4 _ rfl _ rfl
        replace A := (⟨h1, h2.trans A.2⟩ : a.tmps.size = 136 ∧ a.defers = [])
        clear h1 h2 h3 h4
        refine wp_seq ?_
        refine wp_region_sq (σ := Unit) 136 [(0, 104), (1, 105), (2, 106), (3, 107), (4, 108), (5, 109), (6, 110), (7, 111), (8, 112), (9, 113), (10, 114), (11, 115), (12, 116), (13, 117), (14, 118), (15, 119), (16, 120), (17, 121), (18, 122), (19, 123), (20, 124), (21, 125), (22, 126), (23, 127), (24, 128), (25, 129), (26, 130), (27, 131), (28, 132), (29, 133)] (fun j_ s X => match j_ with | 0 => Below U.heap.size U X ∧ (AS U V X m x y nn dd fx fy gl C) ∧ (X.ownsRow bm 23 1 (.slice (some ⟨gm, 0, none⟩) m m) m (lL z m)) | 1 => Below U.heap.size U X ∧ (AS U V X m x y nn dd fx fy gl C) ∧ (X.ownsRow bm 23 1 (.slice (some ⟨gm, 0, none⟩) m m) m (lL z m)) | 2 => Below U.heap.size U X ∧ (AS U V X m x y nn dd fx fy gl C) ∧ (X.ownsRow bm 23 1 (.slice (some ⟨gm, 0, none⟩) m m) m (lL z m)) | 3 => Below U.heap.size U X ∧ (AS U V X m x y nn dd fx fy gl C) ∧ (X.ownsRow bm 23 1 (.slice (some ⟨gm, 0, none⟩) m m) m (lL z m)) | 4 => Below U.heap.size U X ∧ (AS U V X m x y nn dd fx fy gl C) ∧ (X.ownsRow bm 23 1 (.slice (some ⟨gm, 0, none⟩) m m) m (lL z m)) | 5 => Below U.heap.size U X ∧ (AS U V X m x y nn dd fx fy gl C) ∧ (X.ownsRow bm 23 1 (.slice (some ⟨gm, 0, none⟩) m m) m (lL z m)) | 6 => Below U.heap.size U X ∧ (AS U V X m x y nn dd fx fy gl C) ∧ (X.ownsRow bm 23 1 (.slice (some ⟨gm, 0, none⟩) m m) m (lL z m)) | 7 => Below U.heap.size U X ∧ (AS U V X m x y nn dd fx fy gl C) ∧ (X.ownsRow bm 23 1 (.slice (some ⟨gm, 0, none⟩) m m) m (lL z m)) | 8 => Below U.heap.size U X ∧ (AS U V X m x y nn dd fx fy gl C) ∧ (X.ownsRow bm 23 1 (.slice (some ⟨gm, 0, none⟩) m m) m (lL z m)) | 9 => Below U.heap.size U X ∧ (AS U V X m x y nn dd fx fy gl C) ∧ (X.ownsRow bm 23 1 (.slice (some ⟨gm, 0, none⟩) m m) m (lL z m)) | 10 => Below U.heap.size U X ∧ (AS U V X m x y nn dd fx fy gl C) ∧ (X.ownsRow bm 23 1 (.slice (some ⟨gm, 0, none⟩) m m) m (lL z m)) | 11 => Below U.heap.size U X ∧ (AS U V X m x y nn dd fx fy gl C) ∧ (X.ownsRow bm 23 1 (.slice (some ⟨gm, 0, none⟩) m m) m (lL z m)) | 12 => Below U.heap.size U X ∧ (AS U V X m x y nn dd fx fy gl C) ∧ (X.ownsRow bm 23 1 (.slice (some ⟨gm, 0, none⟩) m m) m (lL z m)) | 13 => Below U.heap.size U X ∧ (AS U V X m x y nn dd fx fy gl C) ∧ (X.ownsRow bm 23 1 (.slice (some ⟨gm, 0, none⟩) m m) m (lL z m)) | 14 => Below U.heap.size U X ∧ (AS U V X m x y nn dd fx fy gl C) ∧ (X.ownsRow bm 23 1 (.slice (some ⟨gm, 0, none⟩) m m) m (lL z m)) | 15 => Below U.heap.size U X ∧ (AS U V X m x y nn dd fx fy gl C) ∧ (X.ownsRow bm 23 1 (.slice (some ⟨gm, 0, none⟩) m m) m (lL z m)) | 16 => Below U.heap.size U X ∧ (AS U V X m x y nn dd fx fy gl C) ∧ (X.ownsRow bm 23 1 (.slice (some ⟨gm, 0, none⟩) m m) m (lL z m)) | 17 => Below U.heap.size U X ∧ (AS U V X m x y nn dd fx fy gl C) ∧ (X.ownsRow bm 23 1 (.slice (some ⟨gm, 0, none⟩) m m) m (lL z m)) | 18 => Below U.heap.size U X ∧ (AS U V X m x y nn dd fx fy gl C) ∧ (X.ownsRow bm 23 1 (.slice (some ⟨gm, 0, none⟩) m m) m (lL z m)) | 19 => Below U.heap.size U X ∧ (AS U V X m x y nn dd fx fy gl C) ∧ (X.ownsRow bm 23 1 (.slice (some ⟨gm, 0, none⟩) m m) m (lL z m)) | 20 => Below U.heap.size U X ∧ (AS U V X m x y nn dd fx fy gl C) ∧ (X.ownsRow bm 23 1 (.slice (some ⟨gm, 0, none⟩) m m) m (lL z m)) | 21 => Below U.heap.size U X ∧ (AS U V X m x y nn dd fx fy gl C) ∧ (X.ownsRow bm 23 1 (.slice (some ⟨gm, 0, none⟩) m m) m (lL z m)) | 22 => Below U.heap.size U X ∧ (AS U V X m x y nn dd fx fy gl C) ∧ (X.ownsRow bm 23 1 (.slice (some ⟨gm, 0, none⟩) m m) m (lL z m)) | 23 => Below U.heap.size U X ∧ (AS U V X m x y nn dd fx fy gl C) ∧ (X.ownsRow bm 23 1 (.slice (some ⟨gm, 0, none⟩) m m) m (lL z m)) | 24 => Below U.heap.size U X ∧ (AS U V X m x y nn dd fx fy gl C) ∧ (X.ownsRow bm 23 1 (.slice (some ⟨gm, 0, none⟩) m m) m (lL z m)) | 25 => Below U.heap.size U X ∧ (AS U V X m x y nn dd fx fy gl C) ∧ (X.ownsRow bm 23 1 (.slice (some ⟨gm, 0, none⟩) m m) m (lL z m)) | 26 => Below U.heap.size U X ∧ (AS U V X m x y nn dd fx fy gl C) ∧ (X.ownsRow bm 23 1 (.slice (some ⟨gm, 0, none⟩) m m) m (lL z m)) | 27 => Below U.heap.size U X ∧ (AS U V X m x y nn dd fx fy gl C) ∧ (X.ownsRow bm 23 1 (.slice (some ⟨gm, 0, none⟩) m m) m (lL z m)) | 28 => Below U.heap.size U X ∧ (AS U V X m x y nn dd fx fy gl C) ∧ (X.ownsRow bm 23 1 (.slice (some ⟨gm, 0, none⟩) m m) m (lL z m)) | 29 => Below U.heap.size U X ∧ (AS U V X m x y nn dd fx fy gl C) ∧ (X.ownsRow bm 23 1 (.slice (some ⟨gm, 0, none⟩) m m) m (lL z m)) | _ => Below U.heap.size U X ∧ (AS U V X m x y nn dd fx fy gl C) ∧ (X.ownsRow bm 23 1 (.slice (some ⟨gm, 0, none⟩) m m) m (lL z m))) (fun s => fun i_ => match i_ with | 0 => .int .i64 ((j : Nat) : Int) | 1 => x i | 2 => .int .i64 ((nn i : Nat) : Int) | 3 => .bool true | 4 => .bool true | 5 => .int .i64 (-1000 - (i : Int)) | 6 => .int .i64 ((i : Nat) : Int) | 7 => .int .i64 (-1000 - (i : Int)) | 8 => .bool false | 9 => .bool false | 10 => x i | 11 => .int .i64 ((j : Nat) : Int) | 12 => .pointer (some ⟨gx, 0 + j, none⟩) | 13 => .int .i64 (-1000 - (i : Int)) | 14 => .int .i64 (-1000 - (i : Int)) | 15 => .bool false | 16 => .bool false | 17 => .bool false | 18 => .bool false | 19 => .int .i64 ((j : Nat) : Int) | 20 => x i | 21 => .int .i64 ((nn i : Nat) : Int) | 22 => .bool false | 23 => .bool false | 24 => undef | 25 => undef | 26 => undef | 27 => undef | 28 => .bool false | 29 => .bool false | _ => undef) () A.1 (by kernel_rfl) (by decide) (by decide) ⟨BB, FA, FM⟩ ?_ ?_
        · intro i_ hi_ s a X hf hv hn hS
          match i_, hi_ with
          | 0, _ => exact stepV rfl rfl (execMvB rfl ((hf 16 (by decide)).trans t16)) ⟨s, ⟨_, rfl, rfl⟩, hS, fun _ _ => rfl⟩
          | 1, _ => exact stepV rfl rfl (execMvB rfl ((hf 15 (by decide)).trans t15)) ⟨s, ⟨_, rfl, rfl⟩, hS, fun _ _ => rfl⟩
          | 2, _ => exact stepV rfl rfl (execLenI (len := nn i) rfl (hv 1 (by omega) _ rfl _ rfl) (shpO (hS.2.1.gp.rx i lti))) ⟨s, ⟨_, rfl, rfl⟩, hS, fun _ _ => rfl⟩
          | 3, _ => exact stepV rfl rfl (execDec (execLtW (p := j) (q := nn i) rfl (hv 0 (by omega) _ rfl _ rfl) (hv 2 (by omega) _ rfl _ rfl)) (decide_eq_true (by omega))) ⟨s, ⟨_, rfl, rfl⟩, hS, fun _ _ => rfl⟩
          | 4, _ => exact stepV rfl rfl (execMvB rfl (hv 3 (by omega) _ rfl _ rfl)) ⟨s, ⟨_, rfl, rfl⟩, hS, fun _ _ => rfl⟩
          | 5, _ => exact stepV rfl (wantedOf rfl (yieldedAt rfl rfl (show a.eval (.tmp 108) = .bool true from (hv 4 (by omega) _ rfl _ rfl)))) (execMvB rfl ((hf 17 (by decide)).trans t17)) ⟨s, ⟨_, rfl, rfl⟩, hS, fun _ _ => rfl⟩
          | 6, _ => exact stepV rfl (wantedOf rfl (yieldedAt rfl rfl (show a.eval (.tmp 108) = .bool true from (hv 4 (by omega) _ rfl _ rfl)))) (execMvB rfl ((hf 14 (by decide)).trans t14)) ⟨s, ⟨_, rfl, rfl⟩, hS, fun _ _ => rfl⟩
          | 7, _ => exact stepV rfl (wantedOf rfl (yieldedAt rfl rfl (show a.eval (.tmp 108) = .bool true from (hv 4 (by omega) _ rfl _ rfl)))) (execSubIg (p := -1000) (q := (i : Int)) (z := -1000 - (i : Int)) rfl rfl (hv 6 (by omega) _ rfl _ rfl) rfl (by omega) (by omega)) ⟨s, ⟨_, rfl, rfl⟩, hS, fun _ _ => rfl⟩
          | 8, _ => exact stepV rfl (wantedOf rfl (yieldedAt rfl rfl (show a.eval (.tmp 108) = .bool true from (hv 4 (by omega) _ rfl _ rfl)))) (execNeI rfl (hv 5 (by omega) _ rfl _ rfl) (hv 7 (by omega) _ rfl _ rfl)) ⟨s, ⟨_, rfl, rfl⟩, hS, fun _ _ => rfl⟩
          | 9, _ => exact stepV rfl (wantedOf rfl (yieldedAt rfl rfl (show a.eval (.tmp 108) = .bool true from (hv 4 (by omega) _ rfl _ rfl)))) (execMvB rfl (hv 8 (by omega) _ rfl _ rfl)) ⟨s, ⟨_, rfl, rfl⟩, hS, fun _ _ => rfl⟩
          | 10, _ => exact stepV rfl (wantedOf rfl (yieldedAt rfl rfl (show a.eval (.tmp 113) = .bool false from (hv 9 (by omega) _ rfl _ rfl)))) (execMvB rfl ((hf 15 (by decide)).trans t15)) ⟨s, ⟨_, rfl, rfl⟩, hS, fun _ _ => rfl⟩
          | 11, _ => exact stepV rfl (wantedOf rfl (yieldedAt rfl rfl (show a.eval (.tmp 113) = .bool false from (hv 9 (by omega) _ rfl _ rfl)))) (execMvB rfl ((hf 16 (by decide)).trans t16)) ⟨s, ⟨_, rfl, rfl⟩, hS, fun _ _ => rfl⟩
          | 12, _ => exact stepV rfl (wantedOf rfl (yieldedAt rfl rfl (show a.eval (.tmp 113) = .bool false from (hv 9 (by omega) _ rfl _ rfl)))) (execIdxN (k := j) rfl ((hv 10 (by omega) _ rfl _ rfl).trans ex) (hv 11 (by omega) _ rfl _ rfl) hjn) ⟨s, ⟨_, rfl, rfl⟩, hS, fun _ _ => rfl⟩
          | 13, _ => exact stepV rfl (wantedOf rfl (yieldedAt rfl rfl (show a.eval (.tmp 113) = .bool false from (hv 9 (by omega) _ rfl _ rfl)))) (execLd3 rfl (hv 12 (by omega) _ rfl _ rfl) (by rw [(own_cellI (by have h_ := hS.2.1.gp.rx i lti; rw [ex] at h_; exact h_) hjn).1, hfx i lti j hjn])) ⟨s, ⟨_, rfl, rfl⟩, hS, fun _ _ => rfl⟩
          | 14, _ => exact stepV rfl (wantedOf rfl (yieldedAt rfl rfl (show a.eval (.tmp 113) = .bool false from (hv 9 (by omega) _ rfl _ rfl)))) (execMvB rfl ((hf 17 (by decide)).trans t17)) ⟨s, ⟨_, rfl, rfl⟩, hS, fun _ _ => rfl⟩
          | 15, _ => exact stepV rfl (wantedOf rfl (yieldedAt rfl rfl (show a.eval (.tmp 113) = .bool false from (hv 9 (by omega) _ rfl _ rfl)))) (execNeI rfl (hv 13 (by omega) _ rfl _ rfl) (hv 14 (by omega) _ rfl _ rfl)) ⟨s, ⟨_, rfl, rfl⟩, hS, fun _ _ => rfl⟩
          | 16, _ => exact stepV rfl (wantedOf rfl (yieldedAt rfl rfl (show a.eval (.tmp 108) = .bool true from (hv 4 (by omega) _ rfl _ rfl)))) (execPickF rfl (hv 9 (by omega) _ rfl _ rfl) (hv 15 (by omega) _ rfl _ rfl)) ⟨s, ⟨_, rfl, rfl⟩, hS, fun _ _ => rfl⟩
          | 17, _ => exact stepV rfl rfl (execPickT rfl (hv 4 (by omega) _ rfl _ rfl) (hv 16 (by omega) _ rfl _ rfl)) ⟨s, ⟨_, rfl, rfl⟩, hS, fun _ _ => rfl⟩
          | 18, _ => exact stepV rfl rfl (execMvB rfl (hv 17 (by omega) _ rfl _ rfl)) ⟨s, ⟨_, rfl, rfl⟩, hS, fun _ _ => rfl⟩
          | 19, _ => exact stepV rfl (wantedOf rfl (yieldedAt rfl rfl (show a.eval (.tmp 122) = .bool false from (hv 18 (by omega) _ rfl _ rfl)))) (execMvB rfl ((hf 16 (by decide)).trans t16)) ⟨s, ⟨_, rfl, rfl⟩, hS, fun _ _ => rfl⟩
          | 20, _ => exact stepV rfl (wantedOf rfl (yieldedAt rfl rfl (show a.eval (.tmp 122) = .bool false from (hv 18 (by omega) _ rfl _ rfl)))) (execMvB rfl ((hf 15 (by decide)).trans t15)) ⟨s, ⟨_, rfl, rfl⟩, hS, fun _ _ => rfl⟩
          | 21, _ => exact stepV rfl (wantedOf rfl (yieldedAt rfl rfl (show a.eval (.tmp 122) = .bool false from (hv 18 (by omega) _ rfl _ rfl)))) (execLenI (len := nn i) rfl (hv 20 (by omega) _ rfl _ rfl) (shpO (hS.2.1.gp.rx i lti))) ⟨s, ⟨_, rfl, rfl⟩, hS, fun _ _ => rfl⟩
          | 22, _ => exact stepV rfl (wantedOf rfl (yieldedAt rfl rfl (show a.eval (.tmp 122) = .bool false from (hv 18 (by omega) _ rfl _ rfl)))) (execDec (execGe8 (p := j) (q := nn i) rfl (hv 19 (by omega) _ rfl _ rfl) (hv 21 (by omega) _ rfl _ rfl)) (decide_eq_false (by omega))) ⟨s, ⟨_, rfl, rfl⟩, hS, fun _ _ => rfl⟩
          | 23, _ => exact stepV rfl (wantedOf rfl (yieldedAt rfl rfl (show a.eval (.tmp 122) = .bool false from (hv 18 (by omega) _ rfl _ rfl)))) (execMvB rfl (hv 22 (by omega) _ rfl _ rfl)) ⟨s, ⟨_, rfl, rfl⟩, hS, fun _ _ => rfl⟩
          | 24, _ => exact stepU rfl (unwantedOf rfl (yieldedAt rfl rfl (show a.eval (.tmp 127) = .bool (!true) from (hv 23 (by omega) _ rfl _ rfl)))) ⟨s, ⟨_, rfl, rfl⟩, hS, fun _ _ => rfl⟩
          | 25, _ => exact stepU rfl (unwantedOf rfl (yieldedAt rfl rfl (show a.eval (.tmp 127) = .bool (!true) from (hv 23 (by omega) _ rfl _ rfl)))) ⟨s, ⟨_, rfl, rfl⟩, hS, fun _ _ => rfl⟩
          | 26, _ => exact stepU rfl (unwantedOf rfl (yieldedAt rfl rfl (show a.eval (.tmp 127) = .bool (!true) from (hv 23 (by omega) _ rfl _ rfl)))) ⟨s, ⟨_, rfl, rfl⟩, hS, fun _ _ => rfl⟩
          | 27, _ => exact stepU rfl (unwantedOf rfl (yieldedAt rfl rfl (show a.eval (.tmp 127) = .bool (!true) from (hv 23 (by omega) _ rfl _ rfl)))) ⟨s, ⟨_, rfl, rfl⟩, hS, fun _ _ => rfl⟩
          | 28, _ => exact stepV rfl (wantedOf rfl (yieldedAt rfl rfl (show a.eval (.tmp 122) = .bool false from (hv 18 (by omega) _ rfl _ rfl)))) (execPickF rfl (hv 23 (by omega) _ rfl _ rfl) rfl) ⟨s, ⟨_, rfl, rfl⟩, hS, fun _ _ => rfl⟩
          | 29, _ => exact stepV rfl rfl (execPickF rfl (hv 18 (by omega) _ rfl _ rfl) (hv 28 (by omega) _ rfl _ rfl)) ⟨s, ⟨_, rfl, rfl⟩, hS, fun _ _ => rfl⟩
          | k_ + 30, h_ => exact absurd h_ (by simp)
        rintro _ a X38 h1 h2 h3 h4 hS
        clear BB
        clear FA
        clear FM
        replace hS : Below U.heap.size U X38 ∧ (AS U V X38 m x y nn dd fx fy gl C) ∧ (X38.ownsRow bm 23 1 (.slice (some ⟨gm, 0, none⟩) m m) m (lL z m)) := hS
        obtain ⟨BB, FA, FM⟩ := hS
        replace t6 := (h3 6 (by decide)).trans t6
        replace t87 := (h3 87 (by decide)).trans t87
        replace t88 := (h3 88 (by decide)).trans t88
        replace t89 := (h3 89 (by decide)).trans t89
        replace t14 := (h3 14 (by decide)).trans t14
        replace t15 := (h3 15 (by decide)).trans t15
        replace t97 := (h3 97 (by decide)).trans t97
        replace t98 := (h3 98 (by decide)).trans t98
        replace t99 := (h3 99 (by decide)).trans t99
        have t133 : a.eval (.tmp 133) = .bool false := h4 29 _ rfl _ rfl
        replace A := (⟨h1, h2.trans A.2⟩ : a.tmps.size = 136 ∧ a.defers = [])
        clear h1 h2 h3 h4
        clear t16 t17
        refine wp_cond_false t133 ?_
        refine wp_skip ?_
        clear t133
        refine wp_region_sq (σ := Unit) 136 [(0, 134), (1, 99)] (fun j_ s X => match j_ with | 0 => Below U.heap.size U X ∧ (AS U V X m x y nn dd fx fy gl C) ∧ (X.ownsRow bm 23 1 (.slice (some ⟨gm, 0, none⟩) m m) m (lL z m)) | 1 => Below U.heap.size U X ∧ (AS U V X m x y nn dd fx fy gl C) ∧ (X.ownsRow bm 23 1 (.slice (some ⟨gm, 0, none⟩) m m) m (lL z m)) | _ => Below U.heap.size U X ∧ (AS U V X m x y nn dd fx fy gl C) ∧ (X.ownsRow bm 23 1 (.slice (some ⟨gm, 0, none⟩) m m) m (lL z m))) (fun s => fun i_ => match i_ with | 0 => .int .i64 ((j + 1 : Nat) : Int) | 1 => .int .i64 ((j + 1 : Nat) : Int) | _ => undef) () A.1 (by kernel_rfl) (by decide) (by decide) ⟨BB, FA, FM⟩ ?_ ?_
        · intro i_ hi_ s a X hf hv hn hS
          match i_, hi_ with
          | 0, _ => exact stepV rfl rfl (execAd8 (p := j) (q := 1) rfl ((hn 1 (by omega) _ rfl _ rfl).trans t99) rfl (by omega)) ⟨s, ⟨_, rfl, rfl⟩, hS, fun _ _ => rfl⟩
          | 1, _ => exact stepV rfl rfl (execMvB rfl (hv 0 (by omega) _ rfl _ rfl)) ⟨s, ⟨_, rfl, rfl⟩, hS, fun _ _ => rfl⟩
          | k_ + 2, h_ => exact absurd h_ (by simp)
        rintro _ a X40 h1 h2 h3 h4 hS
        clear BB
        clear FA
        clear FM
        replace hS : Below U.heap.size U X40 ∧ (AS U V X40 m x y nn dd fx fy gl C) ∧ (X40.ownsRow bm 23 1 (.slice (some ⟨gm, 0, none⟩) m m) m (lL z m)) := hS
        obtain ⟨BB, FA, FM⟩ := hS
        replace t6 := (h3 6 (by decide)).trans t6
        replace t87 := (h3 87 (by decide)).trans t87
        replace t88 := (h3 88 (by decide)).trans t88
        replace t89 := (h3 89 (by decide)).trans t89
        replace t14 := (h3 14 (by decide)).trans t14
        replace t15 := (h3 15 (by decide)).trans t15
        replace t97 := (h3 97 (by decide)).trans t97
        replace t98 := (h3 98 (by decide)).trans t98
        replace t99 : a.eval (.tmp 99) = .int .i64 ((j + 1 : Nat) : Int) := h4 1 _ rfl _ rfl
        replace A := (⟨h1, h2.trans A.2⟩ : a.tmps.size = 136 ∧ a.defers = [])
        clear h1 h2 h3 h4
        exact ⟨⟨j + 1, ltj, A, t6, t87, t88, t89, t14, t15, t97, t98, t99, BB, FA, FM⟩, by show nn i + dd i - (intOf (a.eval (.tmp 99))).toNat < nn i + dd i - (intOf (Act.eval _ (.tmp 99))).toNat; rw [t99, esj]; show nn i + dd i - (j + 1) < nn i + dd i - j; omega⟩
      · refine wp_seq ?_
        refine wp_region_sq (σ := Unit) 136 [(0, 101), (1, 102), (2, 103), (3, 16), (4, 17)] (fun j_ s X => match j_ with | 0 => Below U.heap.size U X ∧ (AS U V X m x y nn dd fx fy gl C) ∧ (X.ownsRow bm 23 1 (.slice (some ⟨gm, 0, none⟩) m m) m (lL z m)) | 1 => Below U.heap.size U X ∧ (AS U V X m x y nn dd fx fy gl C) ∧ (X.ownsRow bm 23 1 (.slice (some ⟨gm, 0, none⟩) m m) m (lL z m)) | 2 => Below U.heap.size U X ∧ (AS U V X m x y nn dd fx fy gl C) ∧ (X.ownsRow bm 23 1 (.slice (some ⟨gm, 0, none⟩) m m) m (lL z m)) | 3 => Below U.heap.size U X ∧ (AS U V X m x y nn dd fx fy gl C) ∧ (X.ownsRow bm 23 1 (.slice (some ⟨gm, 0, none⟩) m m) m (lL z m)) | 4 => Below U.heap.size U X ∧ (AS U V X m x y nn dd fx fy gl C) ∧ (X.ownsRow bm 23 1 (.slice (some ⟨gm, 0, none⟩) m m) m (lL z m)) | _ => Below U.heap.size U X ∧ (AS U V X m x y nn dd fx fy gl C) ∧ (X.ownsRow bm 23 1 (.slice (some ⟨gm, 0, none⟩) m m) m (lL z m))) (fun s => fun i_ => match i_ with | 0 => .int .i64 ((j : Nat) : Int) | 1 => .pointer (some ⟨gy, 0 + j, none⟩) | 2 => .int .i64 (-2000 - (i : Int)) | 3 => .int .i64 ((j : Nat) : Int) | 4 => .int .i64 (-2000 - (i : Int)) | _ => undef) () A.1 (by kernel_rfl) (by decide) (by decide) ⟨BB, FA, FM⟩ ?_ ?_
        · intro i_ hi_ s a X hf hv hn hS
          match i_, hi_ with
          | 0, _ => exact stepV rfl rfl (execMvB rfl ((hf 99 (by decide)).trans t99)) ⟨s, ⟨_, rfl, rfl⟩, hS, fun _ _ => rfl⟩
          | 1, _ => exact stepV rfl rfl (execIdxN (k := j) rfl (((hf 97 (by decide)).trans t97).trans ey) ((hf 99 (by decide)).trans t99) ltj) ⟨s, ⟨_, rfl, rfl⟩, hS, fun _ _ => rfl⟩
          | 2, _ => exact stepV rfl rfl (execLd3 rfl (hv 1 (by omega) _ rfl _ rfl) (by rw [(own_cellI (by have h_ := hS.2.1.gp.ry i lti; rw [ey] at h_; exact h_) ltj).1, hfy i lti j (by omega) ltj])) ⟨s, ⟨_, rfl, rfl⟩, hS, fun _ _ => rfl⟩
          | 3, _ => exact stepV rfl rfl (execAsgB rfl (hv 0 (by omega) _ rfl _ rfl)) ⟨s, ⟨_, rfl, rfl⟩, hS, fun _ _ => rfl⟩
          | 4, _ => exact stepV rfl rfl (execAsgB rfl (hv 2 (by omega) _ rfl _ rfl)) ⟨s, ⟨_, rfl, rfl⟩, hS, fun _ _ => rfl⟩
          | k_ + 5, h_ => exact absurd h_ (by simp)
        rintro _ a X37 h1 h2 h3 h4 hS
        clear BB
        clear FA
        clear FM
        replace hS : Below U.heap.size U X37 ∧ (AS U V X37 m x y nn dd fx fy gl C) ∧ (X37.ownsRow bm 23 1 (.slice (some ⟨gm, 0, none⟩) m m) m (lL z m)) := hS
        obtain ⟨BB, FA, FM⟩ := hS
        replace t6 := (h3 6 (by decide)).trans t6
        replace t87 := (h3 87 (by decide)).trans t87
        replace t88 := (h3 88 (by decide)).trans t88
        replace t89 := (h3 89 (by decide)).trans t89
        replace t14 := (h3 14 (by decide)).trans t14
        replace t15 := (h3 15 (by decide)).trans t15
        replace t97 := (h3 97 (by decide)).trans t97
        replace t98 := (h3 98 (by decide)).trans t98
        replace t99 := (h3 99 (by decide)).trans t99
        have t16 : a.eval (.tmp 16) = .int .i64 ((j : Nat) : Int) := h4 3 _ rfl _ rfl
        have t17 : a.eval (.tmp 17) = .int .i64 (-2000 - (i : Int)) := h4 4 _ rfl _ rfl
        replace A := (⟨h1, h2.trans A.2⟩ : a.tmps.size = 136 ∧ a.defers = [])
        clear h1 h2 h3 h4
        refine wp_seq ?_
        refine wp_region_sq (σ := Unit) 136 [(0, 104), (1, 105), (2, 106), (3, 107), (4, 108), (5, 109), (6, 110), (7, 111), (8, 112), (9, 113), (10, 114), (11, 115), (12, 116), (13, 117), (14, 118), (15, 119), (16, 120), (17, 121), (18, 122), (19, 123), (20, 124), (21, 125), (22, 126), (23, 127), (24, 128), (25, 129), (26, 130), (27, 131), (28, 132), (29, 133)] (fun j_ s X => match j_ with | 0 => Below U.heap.size U X ∧ (AS U V X m x y nn dd fx fy gl C) ∧ (X.ownsRow bm 23 1 (.slice (some ⟨gm, 0, none⟩) m m) m (lL z m)) | 1 => Below U.heap.size U X ∧ (AS U V X m x y nn dd fx fy gl C) ∧ (X.ownsRow bm 23 1 (.slice (some ⟨gm, 0, none⟩) m m) m (lL z m)) | 2 => Below U.heap.size U X ∧ (AS U V X m x y nn dd fx fy gl C) ∧ (X.ownsRow bm 23 1 (.slice (some ⟨gm, 0, none⟩) m m) m (lL z m)) | 3 => Below U.heap.size U X ∧ (AS U V X m x y nn dd fx fy gl C) ∧ (X.ownsRow bm 23 1 (.slice (some ⟨gm, 0, none⟩) m m) m (lL z m)) | 4 => Below U.heap.size U X ∧ (AS U V X m x y nn dd fx fy gl C) ∧ (X.ownsRow bm 23 1 (.slice (some ⟨gm, 0, none⟩) m m) m (lL z m)) | 5 => Below U.heap.size U X ∧ (AS U V X m x y nn dd fx fy gl C) ∧ (X.ownsRow bm 23 1 (.slice (some ⟨gm, 0, none⟩) m m) m (lL z m)) | 6 => Below U.heap.size U X ∧ (AS U V X m x y nn dd fx fy gl C) ∧ (X.ownsRow bm 23 1 (.slice (some ⟨gm, 0, none⟩) m m) m (lL z m)) | 7 => Below U.heap.size U X ∧ (AS U V X m x y nn dd fx fy gl C) ∧ (X.ownsRow bm 23 1 (.slice (some ⟨gm, 0, none⟩) m m) m (lL z m)) | 8 => Below U.heap.size U X ∧ (AS U V X m x y nn dd fx fy gl C) ∧ (X.ownsRow bm 23 1 (.slice (some ⟨gm, 0, none⟩) m m) m (lL z m)) | 9 => Below U.heap.size U X ∧ (AS U V X m x y nn dd fx fy gl C) ∧ (X.ownsRow bm 23 1 (.slice (some ⟨gm, 0, none⟩) m m) m (lL z m)) | 10 => Below U.heap.size U X ∧ (AS U V X m x y nn dd fx fy gl C) ∧ (X.ownsRow bm 23 1 (.slice (some ⟨gm, 0, none⟩) m m) m (lL z m)) | 11 => Below U.heap.size U X ∧ (AS U V X m x y nn dd fx fy gl C) ∧ (X.ownsRow bm 23 1 (.slice (some ⟨gm, 0, none⟩) m m) m (lL z m)) | 12 => Below U.heap.size U X ∧ (AS U V X m x y nn dd fx fy gl C) ∧ (X.ownsRow bm 23 1 (.slice (some ⟨gm, 0, none⟩) m m) m (lL z m)) | 13 => Below U.heap.size U X ∧ (AS U V X m x y nn dd fx fy gl C) ∧ (X.ownsRow bm 23 1 (.slice (some ⟨gm, 0, none⟩) m m) m (lL z m)) | 14 => Below U.heap.size U X ∧ (AS U V X m x y nn dd fx fy gl C) ∧ (X.ownsRow bm 23 1 (.slice (some ⟨gm, 0, none⟩) m m) m (lL z m)) | 15 => Below U.heap.size U X ∧ (AS U V X m x y nn dd fx fy gl C) ∧ (X.ownsRow bm 23 1 (.slice (some ⟨gm, 0, none⟩) m m) m (lL z m)) | 16 => Below U.heap.size U X ∧ (AS U V X m x y nn dd fx fy gl C) ∧ (X.ownsRow bm 23 1 (.slice (some ⟨gm, 0, none⟩) m m) m (lL z m)) | 17 => Below U.heap.size U X ∧ (AS U V X m x y nn dd fx fy gl C) ∧ (X.ownsRow bm 23 1 (.slice (some ⟨gm, 0, none⟩) m m) m (lL z m)) | 18 => Below U.heap.size U X ∧ (AS U V X m x y nn dd fx fy gl C) ∧ (X.ownsRow bm 23 1 (.slice (some ⟨gm, 0, none⟩) m m) m (lL z m)) | 19 => Below U.heap.size U X ∧ (AS U V X m x y nn dd fx fy gl C) ∧ (X.ownsRow bm 23 1 (.slice (some ⟨gm, 0, none⟩) m m) m (lL z m)) | 20 => Below U.heap.size U X ∧ (AS U V X m x y nn dd fx fy gl C) ∧ (X.ownsRow bm 23 1 (.slice (some ⟨gm, 0, none⟩) m m) m (lL z m)) | 21 => Below U.heap.size U X ∧ (AS U V X m x y nn dd fx fy gl C) ∧ (X.ownsRow bm 23 1 (.slice (some ⟨gm, 0, none⟩) m m) m (lL z m)) | 22 => Below U.heap.size U X ∧ (AS U V X m x y nn dd fx fy gl C) ∧ (X.ownsRow bm 23 1 (.slice (some ⟨gm, 0, none⟩) m m) m (lL z m)) | 23 => Below U.heap.size U X ∧ (AS U V X m x y nn dd fx fy gl C) ∧ (X.ownsRow bm 23 1 (.slice (some ⟨gm, 0, none⟩) m m) m (lL z m)) | 24 => Below U.heap.size U X ∧ (AS U V X m x y nn dd fx fy gl C) ∧ (X.ownsRow bm 23 1 (.slice (some ⟨gm, 0, none⟩) m m) m (lL z m)) | 25 => Below U.heap.size U X ∧ (AS U V X m x y nn dd fx fy gl C) ∧ (X.ownsRow bm 23 1 (.slice (some ⟨gm, 0, none⟩) m m) m (lL z m)) | 26 => Below U.heap.size U X ∧ (AS U V X m x y nn dd fx fy gl C) ∧ (X.ownsRow bm 23 1 (.slice (some ⟨gm, 0, none⟩) m m) m (lL z m)) | 27 => Below U.heap.size U X ∧ (AS U V X m x y nn dd fx fy gl C) ∧ (X.ownsRow bm 23 1 (.slice (some ⟨gm, 0, none⟩) m m) m (lL z m)) | 28 => Below U.heap.size U X ∧ (AS U V X m x y nn dd fx fy gl C) ∧ (X.ownsRow bm 23 1 (.slice (some ⟨gm, 0, none⟩) m m) m (lL z m)) | 29 => Below U.heap.size U X ∧ (AS U V X m x y nn dd fx fy gl C) ∧ (X.ownsRow bm 23 1 (.slice (some ⟨gm, 0, none⟩) m m) m (lL z m)) | _ => Below U.heap.size U X ∧ (AS U V X m x y nn dd fx fy gl C) ∧ (X.ownsRow bm 23 1 (.slice (some ⟨gm, 0, none⟩) m m) m (lL z m))) (fun s => fun i_ => match i_ with | 0 => .int .i64 ((j : Nat) : Int) | 1 => x i | 2 => .int .i64 ((nn i : Nat) : Int) | 3 => .bool false | 4 => .bool false | 5 => undef | 6 => undef | 7 => undef | 8 => undef | 9 => undef | 10 => undef | 11 => undef | 12 => undef | 13 => undef | 14 => undef | 15 => undef | 16 => undef | 17 => .bool false | 18 => .bool false | 19 => .int .i64 ((j : Nat) : Int) | 20 => x i | 21 => .int .i64 ((nn i : Nat) : Int) | 22 => .bool true | 23 => .bool true | 24 => .int .i64 (-2000 - (i : Int)) | 25 => .int .i64 ((i : Nat) : Int) | 26 => .int .i64 (-2000 - (i : Int)) | 27 => .bool false | 28 => .bool false | 29 => .bool false | _ => undef) () A.1 (by kernel_rfl) (by decide) (by decide) ⟨BB, FA, FM⟩ ?_ ?_
        · intro i_ hi_ s a X hf hv hn hS
          match i_, hi_ with
          | 0, _ => exact stepV rfl rfl (execMvB rfl ((hf 16 (by decide)).trans t16)) ⟨s, ⟨_, rfl, rfl⟩, hS, fun _ _ => rfl⟩
          | 1, _ => exact stepV rfl rfl (execMvB rfl ((hf 15 (by decide)).trans t15)) ⟨s, ⟨_, rfl, rfl⟩, hS, fun _ _ => rfl⟩
          | 2, _ => exact stepV rfl rfl (execLenI (len := nn i) rfl (hv 1 (by omega) _ rfl _ rfl) (shpO (hS.2.1.gp.rx i lti))) ⟨s, ⟨_, rfl, rfl⟩, hS, fun _ _ => rfl⟩
          | 3, _ => exact stepV rfl rfl (execDec (execLtW (p := j) (q := nn i) rfl (hv 0 (by omega) _ rfl _ rfl) (hv 2 (by omega) _ rfl _ rfl)) (decide_eq_false (by omega))) ⟨s, ⟨_, rfl, rfl⟩, hS, fun _ _ => rfl⟩
          | 4, _ => exact stepV rfl rfl (execMvB rfl (hv 3 (by omega) _ rfl _ rfl)) ⟨s, ⟨_, rfl, rfl⟩, hS, fun _ _ => rfl⟩
          | 5, _ => exact stepU rfl (unwantedOf rfl (yieldedAt rfl rfl (show a.eval (.tmp 108) = .bool (!true) from (hv 4 (by omega) _ rfl _ rfl)))) ⟨s, ⟨_, rfl, rfl⟩, hS, fun _ _ => rfl⟩
          | 6, _ => exact stepU rfl (unwantedOf rfl (yieldedAt rfl rfl (show a.eval (.tmp 108) = .bool (!true) from (hv 4 (by omega) _ rfl _ rfl)))) ⟨s, ⟨_, rfl, rfl⟩, hS, fun _ _ => rfl⟩
          | 7, _ => exact stepU rfl (unwantedOf rfl (yieldedAt rfl rfl (show a.eval (.tmp 108) = .bool (!true) from (hv 4 (by omega) _ rfl _ rfl)))) ⟨s, ⟨_, rfl, rfl⟩, hS, fun _ _ => rfl⟩
          | 8, _ => exact stepU rfl (unwantedOf rfl (yieldedAt rfl rfl (show a.eval (.tmp 108) = .bool (!true) from (hv 4 (by omega) _ rfl _ rfl)))) ⟨s, ⟨_, rfl, rfl⟩, hS, fun _ _ => rfl⟩
          | 9, _ => exact stepU rfl (unwantedOf rfl (yieldedAt rfl rfl (show a.eval (.tmp 108) = .bool (!true) from (hv 4 (by omega) _ rfl _ rfl)))) ⟨s, ⟨_, rfl, rfl⟩, hS, fun _ _ => rfl⟩
          | 10, _ => exact stepU rfl (unwantedNo rfl (yieldedNo rfl rfl (show a.eval (.tmp 113) = undef from (hv 9 (by omega) _ rfl _ rfl)))) ⟨s, ⟨_, rfl, rfl⟩, hS, fun _ _ => rfl⟩
          | 11, _ => exact stepU rfl (unwantedNo rfl (yieldedNo rfl rfl (show a.eval (.tmp 113) = undef from (hv 9 (by omega) _ rfl _ rfl)))) ⟨s, ⟨_, rfl, rfl⟩, hS, fun _ _ => rfl⟩
          | 12, _ => exact stepU rfl (unwantedNo rfl (yieldedNo rfl rfl (show a.eval (.tmp 113) = undef from (hv 9 (by omega) _ rfl _ rfl)))) ⟨s, ⟨_, rfl, rfl⟩, hS, fun _ _ => rfl⟩
          | 13, _ => exact stepU rfl (unwantedNo rfl (yieldedNo rfl rfl (show a.eval (.tmp 113) = undef from (hv 9 (by omega) _ rfl _ rfl)))) ⟨s, ⟨_, rfl, rfl⟩, hS, fun _ _ => rfl⟩
          | 14, _ => exact stepU rfl (unwantedNo rfl (yieldedNo rfl rfl (show a.eval (.tmp 113) = undef from (hv 9 (by omega) _ rfl _ rfl)))) ⟨s, ⟨_, rfl, rfl⟩, hS, fun _ _ => rfl⟩
          | 15, _ => exact stepU rfl (unwantedNo rfl (yieldedNo rfl rfl (show a.eval (.tmp 113) = undef from (hv 9 (by omega) _ rfl _ rfl)))) ⟨s, ⟨_, rfl, rfl⟩, hS, fun _ _ => rfl⟩
          | 16, _ => exact stepU rfl (unwantedOf rfl (yieldedAt rfl rfl (show a.eval (.tmp 108) = .bool (!true) from (hv 4 (by omega) _ rfl _ rfl)))) ⟨s, ⟨_, rfl, rfl⟩, hS, fun _ _ => rfl⟩
          | 17, _ => exact stepV rfl rfl (execPickF rfl (hv 4 (by omega) _ rfl _ rfl) rfl) ⟨s, ⟨_, rfl, rfl⟩, hS, fun _ _ => rfl⟩
          | 18, _ => exact stepV rfl rfl (execMvB rfl (hv 17 (by omega) _ rfl _ rfl)) ⟨s, ⟨_, rfl, rfl⟩, hS, fun _ _ => rfl⟩
          | 19, _ => exact stepV rfl (wantedOf rfl (yieldedAt rfl rfl (show a.eval (.tmp 122) = .bool false from (hv 18 (by omega) _ rfl _ rfl)))) (execMvB rfl ((hf 16 (by decide)).trans t16)) ⟨s, ⟨_, rfl, rfl⟩, hS, fun _ _ => rfl⟩
          | 20, _ => exact stepV rfl (wantedOf rfl (yieldedAt rfl rfl (show a.eval (.tmp 122) = .bool false from (hv 18 (by omega) _ rfl _ rfl)))) (execMvB rfl ((hf 15 (by decide)).trans t15)) ⟨s, ⟨_, rfl, rfl⟩, hS, fun _ _ => rfl⟩
          | 21, _ => exact stepV rfl (wantedOf rfl (yieldedAt rfl rfl (show a.eval (.tmp 122) = .bool false from (hv 18 (by omega) _ rfl _ rfl)))) (execLenI (len := nn i) rfl (hv 20 (by omega) _ rfl _ rfl) (shpO (hS.2.1.gp.rx i lti))) ⟨s, ⟨_, rfl, rfl⟩, hS, fun _ _ => rfl⟩
          | 22, _ => exact stepV rfl (wantedOf rfl (yieldedAt rfl rfl (show a.eval (.tmp 122) = .bool false from (hv 18 (by omega) _ rfl _ rfl)))) (execDec (execGe8 (p := j) (q := nn i) rfl (hv 19 (by omega) _ rfl _ rfl) (hv 21 (by omega) _ rfl _ rfl)) (decide_eq_true (by omega))) ⟨s, ⟨_, rfl, rfl⟩, hS, fun _ _ => rfl⟩
          | 23, _ => exact stepV rfl (wantedOf rfl (yieldedAt rfl rfl (show a.eval (.tmp 122) = .bool false from (hv 18 (by omega) _ rfl _ rfl)))) (execMvB rfl (hv 22 (by omega) _ rfl _ rfl)) ⟨s, ⟨_, rfl, rfl⟩, hS, fun _ _ => rfl⟩
          | 24, _ => exact stepV rfl (wantedOf rfl (yieldedAt rfl rfl (show a.eval (.tmp 127) = .bool true from (hv 23 (by omega) _ rfl _ rfl)))) (execMvB rfl ((hf 17 (by decide)).trans t17)) ⟨s, ⟨_, rfl, rfl⟩, hS, fun _ _ => rfl⟩
          | 25, _ => exact stepV rfl (wantedOf rfl (yieldedAt rfl rfl (show a.eval (.tmp 127) = .bool true from (hv 23 (by omega) _ rfl _ rfl)))) (execMvB rfl ((hf 14 (by decide)).trans t14)) ⟨s, ⟨_, rfl, rfl⟩, hS, fun _ _ => rfl⟩
          | 26, _ => exact stepV rfl (wantedOf rfl (yieldedAt rfl rfl (show a.eval (.tmp 127) = .bool true from (hv 23 (by omega) _ rfl _ rfl)))) (execSubIg (p := -2000) (q := (i : Int)) (z := -2000 - (i : Int)) rfl rfl (hv 25 (by omega) _ rfl _ rfl) rfl (by omega) (by omega)) ⟨s, ⟨_, rfl, rfl⟩, hS, fun _ _ => rfl⟩
          | 27, _ => exact stepV rfl (wantedOf rfl (yieldedAt rfl rfl (show a.eval (.tmp 127) = .bool true from (hv 23 (by omega) _ rfl _ rfl)))) (execNeI rfl (hv 24 (by omega) _ rfl _ rfl) (hv 26 (by omega) _ rfl _ rfl)) ⟨s, ⟨_, rfl, rfl⟩, hS, fun _ _ => rfl⟩
          | 28, _ => exact stepV rfl (wantedOf rfl (yieldedAt rfl rfl (show a.eval (.tmp 122) = .bool false from (hv 18 (by omega) _ rfl _ rfl)))) (execPickT rfl (hv 23 (by omega) _ rfl _ rfl) (hv 27 (by omega) _ rfl _ rfl)) ⟨s, ⟨_, rfl, rfl⟩, hS, fun _ _ => rfl⟩
          | 29, _ => exact stepV rfl rfl (execPickF rfl (hv 18 (by omega) _ rfl _ rfl) (hv 28 (by omega) _ rfl _ rfl)) ⟨s, ⟨_, rfl, rfl⟩, hS, fun _ _ => rfl⟩
          | k_ + 30, h_ => exact absurd h_ (by simp)
        rintro _ a X38 h1 h2 h3 h4 hS
        clear BB
        clear FA
        clear FM
        replace hS : Below U.heap.size U X38 ∧ (AS U V X38 m x y nn dd fx fy gl C) ∧ (X38.ownsRow bm 23 1 (.slice (some ⟨gm, 0, none⟩) m m) m (lL z m)) := hS
        obtain ⟨BB, FA, FM⟩ := hS
        replace t6 := (h3 6 (by decide)).trans t6
        replace t87 := (h3 87 (by decide)).trans t87
        replace t88 := (h3 88 (by decide)).trans t88
        replace t89 := (h3 89 (by decide)).trans t89
        replace t14 := (h3 14 (by decide)).trans t14
        replace t15 := (h3 15 (by decide)).trans t15
        replace t97 := (h3 97 (by decide)).trans t97
        replace t98 := (h3 98 (by decide)).trans t98
        replace t99 := (h3 99 (by decide)).trans t99
        have t133 : a.eval (.tmp 133) = .bool false := h4 29 _ rfl _ rfl
        replace A := (⟨h1, h2.trans A.2⟩ : a.tmps.size = 136 ∧ a.defers = [])
        clear h1 h2 h3 h4
        clear t16 t17
        refine wp_cond_false t133 ?_
        refine wp_skip ?_
        clear t133
        refine wp_region_sq (σ := Unit) 136 [(0, 134), (1, 99)] (fun j_ s X => match j_ with | 0 => Below U.heap.size U X ∧ (AS U V X m x y nn dd fx fy gl C) ∧ (X.ownsRow bm 23 1 (.slice (some ⟨gm, 0, none⟩) m m) m (lL z m)) | 1 => Below U.heap.size U X ∧ (AS U V X m x y nn dd fx fy gl C) ∧ (X.ownsRow bm 23 1 (.slice (some ⟨gm, 0, none⟩) m m) m (lL z m)) | _ => Below U.heap.size U X ∧ (AS U V X m x y nn dd fx fy gl C) ∧ (X.ownsRow bm 23 1 (.slice (some ⟨gm, 0, none⟩) m m) m (lL z m))) (fun s => fun i_ => match i_ with | 0 => .int .i64 ((j + 1 : Nat) : Int) | 1 => .int .i64 ((j + 1 : Nat) : Int) | _ => undef) () A.1 (by kernel_rfl) (by decide) (by decide) ⟨BB, FA, FM⟩ ?_ ?_
        · intro i_ hi_ s a X hf hv hn hS
          match i_, hi_ with
          | 0, _ => exact stepV rfl rfl (execAd8 (p := j) (q := 1) rfl ((hn 1 (by omega) _ rfl _ rfl).trans t99) rfl (by omega)) ⟨s, ⟨_, rfl, rfl⟩, hS, fun _ _ => rfl⟩
          | 1, _ => exact stepV rfl rfl (execMvB rfl (hv 0 (by omega) _ rfl _ rfl)) ⟨s, ⟨_, rfl, rfl⟩, hS, fun _ _ => rfl⟩
          | k_ + 2, h_ => exact absurd h_ (by simp)
        rintro _ a X40 h1 h2 h3 h4 hS
        clear BB
        clear FA
        clear FM
        replace hS : Below U.heap.size U X40 ∧ (AS U V X40 m x y nn dd fx fy gl C) ∧ (X40.ownsRow bm 23 1 (.slice (some ⟨gm, 0, none⟩) m m) m (lL z m)) := hS
        obtain ⟨BB, FA, FM⟩ := hS
        replace t6 := (h3 6 (by decide)).trans t6
        replace t87 := (h3 87 (by decide)).trans t87
        replace t88 := (h3 88 (by decide)).trans t88
        replace t89 := (h3 89 (by decide)).trans t89
        replace t14 := (h3 14 (by decide)).trans t14
        replace t15 := (h3 15 (by decide)).trans t15
        replace t97 := (h3 97 (by decide)).trans t97
        replace t98 := (h3 98 (by decide)).trans t98
        replace t99 : a.eval (.tmp 99) = .int .i64 ((j + 1 : Nat) : Int) := h4 1 _ rfl _ rfl
        replace A := (⟨h1, h2.trans A.2⟩ : a.tmps.size = 136 ∧ a.defers = [])
        clear h1 h2 h3 h4
        exact ⟨⟨j + 1, ltj, A, t6, t87, t88, t89, t14, t15, t97, t98, t99, BB, FA, FM⟩, by show nn i + dd i - (intOf (a.eval (.tmp 99))).toNat < nn i + dd i - (intOf (Act.eval _ (.tmp 99))).toNat; rw [t99, esj]; show nn i + dd i - (j + 1) < nn i + dd i - j; omega⟩
    · rw [decide_eq_false ltj] at t100
      refine wp_cond_false t100 ?_
      refine wp_exit ?_
      first | refine exit_in ?_ | refine exit_then (exit_in ?_) | refine exit_then (exit_then (exit_in ?_))
      clear t100 esj
      clear t14 t15 t97 t98 t99 ltj hj
      clear j
      refine wp_region_sq (σ := Unit) 136 [(0, 135), (1, 89)] (fun j_ s X => match j_ with | 0 => Below U.heap.size U X ∧ (AS U V X m x y nn dd fx fy gl C) ∧ (X.ownsRow bm 23 1 (.slice (some ⟨gm, 0, none⟩) m m) m (lL z m)) | 1 => Below U.heap.size U X ∧ (AS U V X m x y nn dd fx fy gl C) ∧ (X.ownsRow bm 23 1 (.slice (some ⟨gm, 0, none⟩) m m) m (lL z m)) | _ => Below U.heap.size U X ∧ (AS U V X m x y nn dd fx fy gl C) ∧ (X.ownsRow bm 23 1 (.slice (some ⟨gm, 0, none⟩) m m) m (lL z m))) (fun s => fun i_ => match i_ with | 0 => .int .i64 ((i + 1 : Nat) : Int) | 1 => .int .i64 ((i + 1 : Nat) : Int) | _ => undef) () A.1 (by kernel_rfl) (by decide) (by decide) ⟨BB, FA, FM⟩ ?_ ?_
      · intro i_ hi_ s a X hf hv hn hS
        match i_, hi_ with
        | 0, _ => exact stepV rfl rfl (execAd8 (p := i) (q := 1) rfl ((hn 1 (by omega) _ rfl _ rfl).trans t89) rfl (by omega)) ⟨s, ⟨_, rfl, rfl⟩, hS, fun _ _ => rfl⟩
        | 1, _ => exact stepV rfl rfl (execMvB rfl (hv 0 (by omega) _ rfl _ rfl)) ⟨s, ⟨_, rfl, rfl⟩, hS, fun _ _ => rfl⟩
        | k_ + 2, h_ => exact absurd h_ (by simp)
      rintro _ a X41 h1 h2 h3 h4 hS
      clear BB
      clear FA
      clear FM
      replace hS : Below U.heap.size U X41 ∧ (AS U V X41 m x y nn dd fx fy gl C) ∧ (X41.ownsRow bm 23 1 (.slice (some ⟨gm, 0, none⟩) m m) m (lL z m)) := hS
      obtain ⟨BB, FA, FM⟩ := hS
      replace t6 := (h3 6 (by decide)).trans t6
      replace t87 := (h3 87 (by decide)).trans t87
      replace t88 := (h3 88 (by decide)).trans t88
      replace t89 : a.eval (.tmp 89) = .int .i64 ((i + 1 : Nat) : Int) := h4 1 _ rfl _ rfl
      replace A := (⟨h1, h2.trans A.2⟩ : a.tmps.size = 136 ∧ a.defers = [])
      clear h1 h2 h3 h4
      exact ⟨⟨i + 1, lti, A, t6, t87, t88, t89, BB, FA, FM⟩, by show m - (intOf (a.eval (.tmp 89))).toNat < m - (intOf (Act.eval _ (.tmp 89))).toNat; rw [t89, esi]; show m - (i + 1) < m - i; omega⟩
  · rw [decide_eq_false lti] at t90
    refine wp_cond_false t90 ?_
    refine wp_exit ?_
    first | refine exit_in ?_ | refine exit_then (exit_in ?_) | refine exit_then (exit_then (exit_in ?_))
    clear t90 esi
    clear t6 t87 t88 t89
    refine wp_seq ?_
    refine wp_region_sq (σ := Unit) 136 [(0, 2)] (fun j_ s X => match j_ with | 0 => Below U.heap.size U X ∧ (AS U V X m x y nn dd fx fy gl C) ∧ (X.ownsRow bm 23 1 (.slice (some ⟨gm, 0, none⟩) m m) m (lL z m)) | _ => Below U.heap.size U X ∧ (AS U V X m x y nn dd fx fy gl C) ∧ (X.ownsRow bm 23 1 (.slice (some ⟨gm, 0, none⟩) m m) m (lL z m))) (fun s => fun i_ => match i_ with | 0 => .bool true | _ => undef) () A.1 (by kernel_rfl) (by decide) (by decide) ⟨BB, FA, FM⟩ ?_ ?_
    · intro i_ hi_ s a X hf hv hn hS
      match i_, hi_ with
      | 0, _ => exact stepV rfl rfl (execAsgB rfl rfl) ⟨s, ⟨_, rfl, rfl⟩, hS, fun _ _ => rfl⟩
      | k_ + 1, h_ => exact absurd h_ (by simp)
    rintro _ a X42 h1 h2 h3 h4 hS
    clear BB
    clear FA
    clear FM
    replace hS : Below U.heap.size U X42 ∧ (AS U V X42 m x y nn dd fx fy gl C) ∧ (X42.ownsRow bm 23 1 (.slice (some ⟨gm, 0, none⟩) m m) m (lL z m)) := hS
    obtain ⟨BB, FA, FM⟩ := hS
    have t2 : a.eval (.tmp 2) = .bool true := h4 0 _ rfl _ rfl
    replace A := (⟨h1, h2.trans A.2⟩ : a.tmps.size = 136 ∧ a.defers = [])
    clear h1 h2 h3 h4
    refine wp_ret ?_
    refine bodyPost_ret (results_tmp rfl _ _ _) A.2 ⟨?_, FA.sv, BB⟩
    show Ending.returned (a.eval (.tmp 2)) = _
    rw [t2]
set_option maxRecDepth 100000 in
set_option maxHeartbeats 4000000 in
/-- apart, from region 21: the tails. -/
theorem apart21 (U V : World) (m gl cl : Nat) (x : Nat → Value) (nn : Nat → Nat) (C : Array Value) (hm : m ≤ 1000) (hC : ∀ t, t < m → C[t]? = some (x t)) (hnn : ∀ t, t < m → nn t ≤ 17592186044000) (S : World) (y z : Nat → Value) (dd : Nat → Nat) (fx fy : Nat → Nat → Int) (gm bm : Nat) (hbl : gl < bm) (hbU : U.heap.size ≤ bm) (hbV : V.heap.size ≤ bm) (hfx : ∀ t, t < m → ∀ j, j < nn t → fx t j = -1000 - (t : Int)) (hfy : ∀ t, t < m → ∀ j, nn t ≤ j → j < nn t + dd t → fy t j = -2000 - (t : Int)) (hd8 : ∀ t, t < m → dd t ≤ 8) (hz : ∀ t, t < m → z t = y t) (BB : Below U.heap.size U S) (FA : (AS U V S m x y nn dd fx fy gl C)) (FM : (S.ownsRow bm 23 1 (.slice (some ⟨gm, 0, none⟩) m m) m (lL z m)))
    (a : Act) (A : a.tmps.size = 136 ∧ a.defers = []) (t0 : a.eval (.tmp 0) = .slice (some ⟨gl, 0, none⟩) m cl) (t6 : a.eval (.tmp 6) = .slice (some ⟨gm, 0, none⟩) m m) :
    (findR 21 (Try.f15.body.getD .skip)).wp Try.prog (bodyPost Try.prog Try.f15 fun e w' => e = .returned (.bool true) ∧ Saved (GxI m x) V w' ∧ Below U.heap.size U w') a S := by
  refine wp_seq ?_
  refine wp_seq ?_
  refine wp_region_sq (σ := Unit) 136 [(0, 61), (1, 62), (2, 63)] (fun j_ s X => match j_ with | 0 => Below U.heap.size U X ∧ (AS U V X m x y nn dd fx fy gl C) ∧ (X.ownsRow bm 23 1 (.slice (some ⟨gm, 0, none⟩) m m) m (lL z m)) | 1 => Below U.heap.size U X ∧ (AS U V X m x y nn dd fx fy gl C) ∧ (X.ownsRow bm 23 1 (.slice (some ⟨gm, 0, none⟩) m m) m (lL z m)) | 2 => Below U.heap.size U X ∧ (AS U V X m x y nn dd fx fy gl C) ∧ (X.ownsRow bm 23 1 (.slice (some ⟨gm, 0, none⟩) m m) m (lL z m)) | _ => Below U.heap.size U X ∧ (AS U V X m x y nn dd fx fy gl C) ∧ (X.ownsRow bm 23 1 (.slice (some ⟨gm, 0, none⟩) m m) m (lL z m))) (fun s => fun i_ => match i_ with | 0 => .slice (some ⟨gm, 0, none⟩) m m | 1 => .int .i64 ((m : Nat) : Int) | 2 => .int .i64 ((0 : Nat) : Int) | _ => undef) () A.1 (by kernel_rfl) (by decide) (by decide) ⟨BB, FA, FM⟩ ?_ ?_
  · intro i_ hi_ s a X hf hv hn hS
    match i_, hi_ with
    | 0, _ => exact stepV rfl rfl (execMvB rfl ((hf 6 (by decide)).trans t6)) ⟨s, ⟨_, rfl, rfl⟩, hS, fun _ _ => rfl⟩
    | 1, _ => exact stepV rfl rfl (execLenLI (len := m) rfl (hv 0 (by omega) _ rfl _ rfl) ⟨_, _, rfl⟩) ⟨s, ⟨_, rfl, rfl⟩, hS, fun _ _ => rfl⟩
    | 2, _ => exact stepV rfl rfl (execMvB rfl rfl) ⟨s, ⟨_, rfl, rfl⟩, hS, fun _ _ => rfl⟩
    | k_ + 3, h_ => exact absurd h_ (by simp)
  rintro _ a X21 h1 h2 h3 h4 hS
  clear BB
  clear FA
  clear FM
  replace hS : Below U.heap.size U X21 ∧ (AS U V X21 m x y nn dd fx fy gl C) ∧ (X21.ownsRow bm 23 1 (.slice (some ⟨gm, 0, none⟩) m m) m (lL z m)) := hS
  obtain ⟨BB, FA, FM⟩ := hS
  replace t0 := (h3 0 (by decide)).trans t0
  replace t6 := (h3 6 (by decide)).trans t6
  have t61 : a.eval (.tmp 61) = .slice (some ⟨gm, 0, none⟩) m m := h4 0 _ rfl _ rfl
  have t62 : a.eval (.tmp 62) = .int .i64 ((m : Nat) : Int) := h4 1 _ rfl _ rfl
  have t63 : a.eval (.tmp 63) = .int .i64 ((0 : Nat) : Int) := h4 2 _ rfl _ rfl
  replace A := (⟨h1, h2.trans A.2⟩ : a.tmps.size = 136 ∧ a.defers = [])
  clear h1 h2 h3 h4
  refine wp_block ?_
  refine wp_loop (fun a W => ∃ (i : Nat) (y : Nat → Value) (z : Nat → Value) (dd : Nat → Nat) (fy : Nat → Nat → Int), i ≤ m ∧ (∀ t, t < m → z t = y t) ∧ (∀ t, i ≤ t → t < m → dd t ≤ 8) ∧ (∀ t, t < m → dd t ≤ 108) ∧ (∀ t, t < m → ∀ j, nn t ≤ j → j < nn t + dd t → fy t j = -2000 - (t : Int)) ∧ (a.tmps.size = 136 ∧ a.defers = []) ∧ a.eval (.tmp 0) = .slice (some ⟨gl, 0, none⟩) m cl ∧ a.eval (.tmp 6) = .slice (some ⟨gm, 0, none⟩) m m ∧ a.eval (.tmp 61) = .slice (some ⟨gm, 0, none⟩) m m ∧ a.eval (.tmp 62) = .int .i64 ((m : Nat) : Int) ∧ a.eval (.tmp 63) = .int .i64 ((i : Nat) : Int) ∧ Below U.heap.size U W ∧ (AS U V W m x y nn dd fx fy gl C) ∧ (W.ownsRow bm 23 1 (.slice (some ⟨gm, 0, none⟩) m m) m (lL z m))) (fun a _ => m - (intOf (a.eval (.tmp 63))).toNat) ⟨0, y, z, dd, fy, Nat.zero_le _, hz, fun t _ ht => hd8 t ht, fun t ht => Nat.le_trans (hd8 t ht) (by decide), hfy, A, t0, t6, t61, t62, t63, BB, FA, FM⟩ ?_
  clear A t0 t6 t61 t62 t63 BB FA FM a
  rintro a XL22 ⟨i, y, z, dd, fy, hi, hz, hd8, hdd, hfy, A, t0, t6, t61, t62, t63, BB, FA, FM⟩
  have esi := t63
  refine wp_seq ?_
  refine wp_region_sq (σ := Unit) 136 [(0, 64)] (fun j_ s X => match j_ with | 0 => Below U.heap.size U X ∧ (AS U V X m x y nn dd fx fy gl C) ∧ (X.ownsRow bm 23 1 (.slice (some ⟨gm, 0, none⟩) m m) m (lL z m)) | _ => Below U.heap.size U X ∧ (AS U V X m x y nn dd fx fy gl C) ∧ (X.ownsRow bm 23 1 (.slice (some ⟨gm, 0, none⟩) m m) m (lL z m))) (fun s => fun i_ => match i_ with | 0 => .bool (decide (i < m)) | _ => undef) () A.1 (by kernel_rfl) (by decide) (by decide) ⟨BB, FA, FM⟩ ?_ ?_
  · intro i_ hi_ s a X hf hv hn hS
    match i_, hi_ with
    | 0, _ => exact stepV rfl rfl (execLtW (p := i) (q := m) rfl ((hf 63 (by decide)).trans t63) ((hf 62 (by decide)).trans t62)) ⟨s, ⟨_, rfl, rfl⟩, hS, fun _ _ => rfl⟩
    | k_ + 1, h_ => exact absurd h_ (by simp)
  rintro _ a X22 h1 h2 h3 h4 hS
  clear BB
  clear FA
  clear FM
  replace hS : Below U.heap.size U X22 ∧ (AS U V X22 m x y nn dd fx fy gl C) ∧ (X22.ownsRow bm 23 1 (.slice (some ⟨gm, 0, none⟩) m m) m (lL z m)) := hS
  obtain ⟨BB, FA, FM⟩ := hS
  replace t0 := (h3 0 (by decide)).trans t0
  replace t6 := (h3 6 (by decide)).trans t6
  replace t61 := (h3 61 (by decide)).trans t61
  replace t62 := (h3 62 (by decide)).trans t62
  replace t63 := (h3 63 (by decide)).trans t63
  have t64 : a.eval (.tmp 64) = .bool (decide (i < m)) := h4 0 _ rfl _ rfl
  replace A := (⟨h1, h2.trans A.2⟩ : a.tmps.size = 136 ∧ a.defers = [])
  clear h1 h2 h3 h4
  refine wp_seq ?_
  by_cases lti : i < m
  · rw [decide_eq_true lti] at t64
    refine wp_cond_true t64 ?_
    refine wp_skip ?_
    clear t64
    refine wp_seq ?_
    refine wp_block ?_
    have hni := hnn i lti
    have hdi := hd8 i (Nat.le_refl _) lti
    refine wp_seq ?_
    refine wp_region_sq (σ := Unit) 136 [(0, 65), (1, 66), (2, 67), (3, 10), (4, 11)] (fun j_ s X => match j_ with | 0 => Below U.heap.size U X ∧ (AS U V X m x y nn dd fx fy gl C) ∧ (X.ownsRow bm 23 1 (.slice (some ⟨gm, 0, none⟩) m m) m (lL z m)) | 1 => Below U.heap.size U X ∧ (AS U V X m x y nn dd fx fy gl C) ∧ (X.ownsRow bm 23 1 (.slice (some ⟨gm, 0, none⟩) m m) m (lL z m)) | 2 => Below U.heap.size U X ∧ (AS U V X m x y nn dd fx fy gl C) ∧ (X.ownsRow bm 23 1 (.slice (some ⟨gm, 0, none⟩) m m) m (lL z m)) | 3 => Below U.heap.size U X ∧ (AS U V X m x y nn dd fx fy gl C) ∧ (X.ownsRow bm 23 1 (.slice (some ⟨gm, 0, none⟩) m m) m (lL z m)) | 4 => Below U.heap.size U X ∧ (AS U V X m x y nn dd fx fy gl C) ∧ (X.ownsRow bm 23 1 (.slice (some ⟨gm, 0, none⟩) m m) m (lL z m)) | _ => Below U.heap.size U X ∧ (AS U V X m x y nn dd fx fy gl C) ∧ (X.ownsRow bm 23 1 (.slice (some ⟨gm, 0, none⟩) m m) m (lL z m))) (fun s => fun i_ => match i_ with | 0 => .int .i64 ((i : Nat) : Int) | 1 => .pointer (some ⟨gm, 0 + i, none⟩) | 2 => y i | 3 => .int .i64 ((i : Nat) : Int) | 4 => y i | _ => undef) () A.1 (by kernel_rfl) (by decide) (by decide) ⟨BB, FA, FM⟩ ?_ ?_
    · intro i_ hi_ s a X hf hv hn hS
      match i_, hi_ with
      | 0, _ => exact stepV rfl rfl (execMvB rfl ((hf 63 (by decide)).trans t63)) ⟨s, ⟨_, rfl, rfl⟩, hS, fun _ _ => rfl⟩
      | 1, _ => exact stepV rfl rfl (execIdxLI (k := i) rfl ((hf 61 (by decide)).trans t61) ((hf 63 (by decide)).trans t63) lti) ⟨s, ⟨_, rfl, rfl⟩, hS, fun _ _ => rfl⟩
      | 2, _ => exact stepV rfl rfl (execLdLI (v := y i) rfl (hv 1 (by omega) _ rfl _ rfl) (by rw [ownL_cellI hS.2.2 lti, hz i lti])) ⟨s, ⟨_, rfl, rfl⟩, hS, fun _ _ => rfl⟩
      | 3, _ => exact stepV rfl rfl (execAsgB rfl (hv 0 (by omega) _ rfl _ rfl)) ⟨s, ⟨_, rfl, rfl⟩, hS, fun _ _ => rfl⟩
      | 4, _ => exact stepV rfl rfl (execAsgB rfl (hv 2 (by omega) _ rfl _ rfl)) ⟨s, ⟨_, rfl, rfl⟩, hS, fun _ _ => rfl⟩
      | k_ + 5, h_ => exact absurd h_ (by simp)
    rintro _ a X23 h1 h2 h3 h4 hS
    clear BB
    clear FA
    clear FM
    replace hS : Below U.heap.size U X23 ∧ (AS U V X23 m x y nn dd fx fy gl C) ∧ (X23.ownsRow bm 23 1 (.slice (some ⟨gm, 0, none⟩) m m) m (lL z m)) := hS
    obtain ⟨BB, FA, FM⟩ := hS
    replace t0 := (h3 0 (by decide)).trans t0
    replace t6 := (h3 6 (by decide)).trans t6
    replace t61 := (h3 61 (by decide)).trans t61
    replace t62 := (h3 62 (by decide)).trans t62
    replace t63 := (h3 63 (by decide)).trans t63
    have t10 : a.eval (.tmp 10) = .int .i64 ((i : Nat) : Int) := h4 3 _ rfl _ rfl
    have t11 : a.eval (.tmp 11) = y i := h4 4 _ rfl _ rfl
    replace A := (⟨h1, h2.trans A.2⟩ : a.tmps.size = 136 ∧ a.defers = [])
    clear h1 h2 h3 h4
    refine wp_seq ?_
    refine wp_region_sq (σ := Nat) 136 [(0, 68), (1, 12)] (fun j_ s X => match j_ with | 0 => Below U.heap.size U X ∧ (AS U V X m x y nn dd fx fy gl C) ∧ (X.ownsRow bm 23 1 (.slice (some ⟨gm, 0, none⟩) m m) m (lL z m)) | 1 => Below U.heap.size U X ∧ (AS U V X m x y nn dd fx fy gl C) ∧ (X.ownsRow bm 23 1 (.slice (some ⟨gm, 0, none⟩) m m) m (lL z m)) ∧ (X.ownsRow U.heap.size 3 1 (.slice (some ⟨s, 0, none⟩) 100 100) 100 (intsL 100 (fun l => if l < 0 then -2000 - (i : Int) else 0))) ∧ (U.heap.size ≤ s) ∧ (V.heap.size ≤ s) ∧ (∀ t, t < m → ¬ ((x t).ownBlock = some s ∨ (y t).ownBlock = some s)) | _ => Below U.heap.size U X ∧ (AS U V X m x y nn dd fx fy gl C) ∧ (X.ownsRow bm 23 1 (.slice (some ⟨gm, 0, none⟩) m m) m (lL z m)) ∧ (X.ownsRow U.heap.size 3 1 (.slice (some ⟨s, 0, none⟩) 100 100) 100 (intsL 100 (fun l => if l < 0 then -2000 - (i : Int) else 0))) ∧ (U.heap.size ≤ s) ∧ (V.heap.size ≤ s) ∧ (∀ t, t < m → ¬ ((x t).ownBlock = some s ∨ (y t).ownBlock = some s))) (fun s => fun i_ => match i_ with | 0 => .slice (some ⟨s, 0, none⟩) 100 100 | 1 => .slice (some ⟨s, 0, none⟩) 100 100 | _ => undef) 0 A.1 (by kernel_rfl) (by decide) (by decide) ⟨BB, FA, FM⟩ ?_ ?_
    · intro i_ hi_ s a X hf hv hn hS
      match i_, hi_ with
      | 0, _ =>
        refine stepV rfl rfl (execMkN (n := 100) rfl rfl rfl (by decide)) ⟨X.heap.size, ⟨_, rfl, rfl⟩, ⟨(hS.1).trans (((belNew X _)).mono (hS.1).size), (hS.2.1.on (belNew X _)), (ownD_below hS.2.2 (belNew X _)), ownD_base (own_mkZ X 100 _ (by decide) (fun j_ _ => if_neg (Nat.not_lt_zero _))) (hS.1).size, (hS.1).size, hS.2.1.sv.size, fun t ht e => absurd (hS.2.1.gp.blt ht e).2 (Nat.lt_irrefl _)⟩, fun i hi => ?_⟩
        omega
      | 1, _ => exact stepV rfl rfl (execAsgB rfl (hv 0 (by omega) _ rfl _ rfl)) ⟨s, ⟨_, rfl, rfl⟩, hS, fun _ _ => rfl⟩
      | k_ + 2, h_ => exact absurd h_ (by simp)
    rintro g68 a X24 h1 h2 h3 h4 hS
    clear BB
    clear FA
    clear FM
    replace hS : Below U.heap.size U X24 ∧ (AS U V X24 m x y nn dd fx fy gl C) ∧ (X24.ownsRow bm 23 1 (.slice (some ⟨gm, 0, none⟩) m m) m (lL z m)) ∧ (X24.ownsRow U.heap.size 3 1 (.slice (some ⟨g68, 0, none⟩) 100 100) 100 (intsL 100 (fun l => if l < 0 then -2000 - (i : Int) else 0))) ∧ (U.heap.size ≤ g68) ∧ (V.heap.size ≤ g68) ∧ (∀ t, t < m → ¬ ((x t).ownBlock = some g68 ∨ (y t).ownBlock = some g68)) := hS
    obtain ⟨BB, FA, FM, FT, Fg, Fv, Fn⟩ := hS
    replace t0 := (h3 0 (by decide)).trans t0
    replace t6 := (h3 6 (by decide)).trans t6
    replace t61 := (h3 61 (by decide)).trans t61
    replace t62 := (h3 62 (by decide)).trans t62
    replace t63 := (h3 63 (by decide)).trans t63
    replace t10 := (h3 10 (by decide)).trans t10
    replace t11 := (h3 11 (by decide)).trans t11
    have t12 : a.eval (.tmp 12) = .slice (some ⟨g68, 0, none⟩) 100 100 := h4 1 _ rfl _ rfl
    replace A := (⟨h1, h2.trans A.2⟩ : a.tmps.size = 136 ∧ a.defers = [])
    clear h1 h2 h3 h4
    refine wp_seq ?_
    refine wp_seq ?_
    refine wp_region_sq (σ := Unit) 136 [(0, 69), (1, 70), (2, 71)] (fun j_ s X => match j_ with | 0 => Below U.heap.size U X ∧ (AS U V X m x y nn dd fx fy gl C) ∧ (X.ownsRow bm 23 1 (.slice (some ⟨gm, 0, none⟩) m m) m (lL z m)) ∧ (X.ownsRow U.heap.size 3 1 (.slice (some ⟨g68, 0, none⟩) 100 100) 100 (intsL 100 (fun l => if l < 0 then -2000 - (i : Int) else 0))) ∧ (U.heap.size ≤ g68) ∧ (V.heap.size ≤ g68) ∧ (∀ t, t < m → ¬ ((x t).ownBlock = some g68 ∨ (y t).ownBlock = some g68)) | 1 => Below U.heap.size U X ∧ (AS U V X m x y nn dd fx fy gl C) ∧ (X.ownsRow bm 23 1 (.slice (some ⟨gm, 0, none⟩) m m) m (lL z m)) ∧ (X.ownsRow U.heap.size 3 1 (.slice (some ⟨g68, 0, none⟩) 100 100) 100 (intsL 100 (fun l => if l < 0 then -2000 - (i : Int) else 0))) ∧ (U.heap.size ≤ g68) ∧ (V.heap.size ≤ g68) ∧ (∀ t, t < m → ¬ ((x t).ownBlock = some g68 ∨ (y t).ownBlock = some g68)) | 2 => Below U.heap.size U X ∧ (AS U V X m x y nn dd fx fy gl C) ∧ (X.ownsRow bm 23 1 (.slice (some ⟨gm, 0, none⟩) m m) m (lL z m)) ∧ (X.ownsRow U.heap.size 3 1 (.slice (some ⟨g68, 0, none⟩) 100 100) 100 (intsL 100 (fun l => if l < 0 then -2000 - (i : Int) else 0))) ∧ (U.heap.size ≤ g68) ∧ (V.heap.size ≤ g68) ∧ (∀ t, t < m → ¬ ((x t).ownBlock = some g68 ∨ (y t).ownBlock = some g68)) | _ => Below U.heap.size U X ∧ (AS U V X m x y nn dd fx fy gl C) ∧ (X.ownsRow bm 23 1 (.slice (some ⟨gm, 0, none⟩) m m) m (lL z m)) ∧ (X.ownsRow U.heap.size 3 1 (.slice (some ⟨g68, 0, none⟩) 100 100) 100 (intsL 100 (fun l => if l < 0 then -2000 - (i : Int) else 0))) ∧ (U.heap.size ≤ g68) ∧ (V.heap.size ≤ g68) ∧ (∀ t, t < m → ¬ ((x t).ownBlock = some g68 ∨ (y t).ownBlock = some g68))) (fun s => fun i_ => match i_ with | 0 => .slice (some ⟨g68, 0, none⟩) 100 100 | 1 => .int .i64 ((100 : Nat) : Int) | 2 => .int .i64 ((0 : Nat) : Int) | _ => undef) () A.1 (by kernel_rfl) (by decide) (by decide) ⟨BB, FA, FM, FT, Fg, Fv, Fn⟩ ?_ ?_
    · intro i_ hi_ s a X hf hv hn hS
      match i_, hi_ with
      | 0, _ => exact stepV rfl rfl (execMvB rfl ((hf 12 (by decide)).trans t12)) ⟨s, ⟨_, rfl, rfl⟩, hS, fun _ _ => rfl⟩
      | 1, _ => exact stepV rfl rfl (execLenI (len := 100) rfl (hv 0 (by omega) _ rfl _ rfl) ⟨_, _, rfl⟩) ⟨s, ⟨_, rfl, rfl⟩, hS, fun _ _ => rfl⟩
      | 2, _ => exact stepV rfl rfl (execMvB rfl rfl) ⟨s, ⟨_, rfl, rfl⟩, hS, fun _ _ => rfl⟩
      | k_ + 3, h_ => exact absurd h_ (by simp)
    rintro _ a X25 h1 h2 h3 h4 hS
    clear BB
    clear FA
    clear FM
    clear FT
    clear Fg
    clear Fv
    clear Fn
    replace hS : Below U.heap.size U X25 ∧ (AS U V X25 m x y nn dd fx fy gl C) ∧ (X25.ownsRow bm 23 1 (.slice (some ⟨gm, 0, none⟩) m m) m (lL z m)) ∧ (X25.ownsRow U.heap.size 3 1 (.slice (some ⟨g68, 0, none⟩) 100 100) 100 (intsL 100 (fun l => if l < 0 then -2000 - (i : Int) else 0))) ∧ (U.heap.size ≤ g68) ∧ (V.heap.size ≤ g68) ∧ (∀ t, t < m → ¬ ((x t).ownBlock = some g68 ∨ (y t).ownBlock = some g68)) := hS
    obtain ⟨BB, FA, FM, FT, Fg, Fv, Fn⟩ := hS
    replace t0 := (h3 0 (by decide)).trans t0
    replace t6 := (h3 6 (by decide)).trans t6
    replace t61 := (h3 61 (by decide)).trans t61
    replace t62 := (h3 62 (by decide)).trans t62
    replace t63 := (h3 63 (by decide)).trans t63
    replace t10 := (h3 10 (by decide)).trans t10
    replace t11 := (h3 11 (by decide)).trans t11
    replace t12 := (h3 12 (by decide)).trans t12
    have t70 : a.eval (.tmp 70) = .int .i64 ((100 : Nat) : Int) := h4 1 _ rfl _ rfl
    have t71 : a.eval (.tmp 71) = .int .i64 ((0 : Nat) : Int) := h4 2 _ rfl _ rfl
    replace A := (⟨h1, h2.trans A.2⟩ : a.tmps.size = 136 ∧ a.defers = [])
    clear h1 h2 h3 h4
    refine wp_block ?_
    refine wp_loop (fun a W => ∃ (j : Nat), j ≤ 100 ∧ (a.tmps.size = 136 ∧ a.defers = []) ∧ a.eval (.tmp 0) = .slice (some ⟨gl, 0, none⟩) m cl ∧ a.eval (.tmp 6) = .slice (some ⟨gm, 0, none⟩) m m ∧ a.eval (.tmp 61) = .slice (some ⟨gm, 0, none⟩) m m ∧ a.eval (.tmp 62) = .int .i64 ((m : Nat) : Int) ∧ a.eval (.tmp 63) = .int .i64 ((i : Nat) : Int) ∧ a.eval (.tmp 10) = .int .i64 ((i : Nat) : Int) ∧ a.eval (.tmp 11) = y i ∧ a.eval (.tmp 12) = .slice (some ⟨g68, 0, none⟩) 100 100 ∧ a.eval (.tmp 70) = .int .i64 ((100 : Nat) : Int) ∧ a.eval (.tmp 71) = .int .i64 ((j : Nat) : Int) ∧ Below U.heap.size U W ∧ (AS U V W m x y nn dd fx fy gl C) ∧ (W.ownsRow bm 23 1 (.slice (some ⟨gm, 0, none⟩) m m) m (lL z m)) ∧ (W.ownsRow U.heap.size 3 1 (.slice (some ⟨g68, 0, none⟩) 100 100) 100 (intsL 100 (fun l => if l < j then -2000 - (i : Int) else 0)))) (fun a _ => 100 - (intOf (a.eval (.tmp 71))).toNat) ⟨0, Nat.zero_le _, A, t0, t6, t61, t62, t63, t10, t11, t12, t70, t71, BB, FA, FM, FT⟩ ?_
    clear A t0 t6 t61 t62 t63 t10 t11 t12 t70 t71 BB FA FM FT a
    rintro a XL26 ⟨j, hj, A, t0, t6, t61, t62, t63, t10, t11, t12, t70, t71, BB, FA, FM, FT⟩
    have esj := t71
    refine wp_seq ?_
    refine wp_region_sq (σ := Unit) 136 [(0, 72)] (fun j_ s X => match j_ with | 0 => Below U.heap.size U X ∧ (AS U V X m x y nn dd fx fy gl C) ∧ (X.ownsRow bm 23 1 (.slice (some ⟨gm, 0, none⟩) m m) m (lL z m)) ∧ (X.ownsRow U.heap.size 3 1 (.slice (some ⟨g68, 0, none⟩) 100 100) 100 (intsL 100 (fun l => if l < j then -2000 - (i : Int) else 0))) | _ => Below U.heap.size U X ∧ (AS U V X m x y nn dd fx fy gl C) ∧ (X.ownsRow bm 23 1 (.slice (some ⟨gm, 0, none⟩) m m) m (lL z m)) ∧ (X.ownsRow U.heap.size 3 1 (.slice (some ⟨g68, 0, none⟩) 100 100) 100 (intsL 100 (fun l => if l < j then -2000 - (i : Int) else 0)))) (fun s => fun i_ => match i_ with | 0 => .bool (decide (j < 100)) | _ => undef) () A.1 (by kernel_rfl) (by decide) (by decide) ⟨BB, FA, FM, FT⟩ ?_ ?_
    · intro i_ hi_ s a X hf hv hn hS
      match i_, hi_ with
      | 0, _ => exact stepV rfl rfl (execLtW (p := j) (q := 100) rfl ((hf 71 (by decide)).trans t71) ((hf 70 (by decide)).trans t70)) ⟨s, ⟨_, rfl, rfl⟩, hS, fun _ _ => rfl⟩
      | k_ + 1, h_ => exact absurd h_ (by simp)
    rintro _ a X26 h1 h2 h3 h4 hS
    clear BB
    clear FA
    clear FM
    clear FT
    replace hS : Below U.heap.size U X26 ∧ (AS U V X26 m x y nn dd fx fy gl C) ∧ (X26.ownsRow bm 23 1 (.slice (some ⟨gm, 0, none⟩) m m) m (lL z m)) ∧ (X26.ownsRow U.heap.size 3 1 (.slice (some ⟨g68, 0, none⟩) 100 100) 100 (intsL 100 (fun l => if l < j then -2000 - (i : Int) else 0))) := hS
    obtain ⟨BB, FA, FM, FT⟩ := hS
    replace t0 := (h3 0 (by decide)).trans t0
    replace t6 := (h3 6 (by decide)).trans t6
    replace t61 := (h3 61 (by decide)).trans t61
    replace t62 := (h3 62 (by decide)).trans t62
    replace t63 := (h3 63 (by decide)).trans t63
    replace t10 := (h3 10 (by decide)).trans t10
    replace t11 := (h3 11 (by decide)).trans t11
    replace t12 := (h3 12 (by decide)).trans t12
    replace t70 := (h3 70 (by decide)).trans t70
    replace t71 := (h3 71 (by decide)).trans t71
    have t72 : a.eval (.tmp 72) = .bool (decide (j < 100)) := h4 0 _ rfl _ rfl
    replace A := (⟨h1, h2.trans A.2⟩ : a.tmps.size = 136 ∧ a.defers = [])
    clear h1 h2 h3 h4
    refine wp_seq ?_
    by_cases ltj : j < 100
    · rw [decide_eq_true ltj] at t72
      refine wp_cond_true t72 ?_
      refine wp_skip ?_
      clear t72
      refine wp_seq ?_
      refine wp_block ?_
      refine wp_seq ?_
      refine wp_region_sq (σ := Unit) 136 [(0, 73), (1, 13)] (fun j_ s X => match j_ with | 0 => Below U.heap.size U X ∧ (AS U V X m x y nn dd fx fy gl C) ∧ (X.ownsRow bm 23 1 (.slice (some ⟨gm, 0, none⟩) m m) m (lL z m)) ∧ (X.ownsRow U.heap.size 3 1 (.slice (some ⟨g68, 0, none⟩) 100 100) 100 (intsL 100 (fun l => if l < j then -2000 - (i : Int) else 0))) | 1 => Below U.heap.size U X ∧ (AS U V X m x y nn dd fx fy gl C) ∧ (X.ownsRow bm 23 1 (.slice (some ⟨gm, 0, none⟩) m m) m (lL z m)) ∧ (X.ownsRow U.heap.size 3 1 (.slice (some ⟨g68, 0, none⟩) 100 100) 100 (intsL 100 (fun l => if l < j then -2000 - (i : Int) else 0))) | _ => Below U.heap.size U X ∧ (AS U V X m x y nn dd fx fy gl C) ∧ (X.ownsRow bm 23 1 (.slice (some ⟨gm, 0, none⟩) m m) m (lL z m)) ∧ (X.ownsRow U.heap.size 3 1 (.slice (some ⟨g68, 0, none⟩) 100 100) 100 (intsL 100 (fun l => if l < j then -2000 - (i : Int) else 0)))) (fun s => fun i_ => match i_ with | 0 => .int .i64 ((j : Nat) : Int) | 1 => .int .i64 ((j : Nat) : Int) | _ => undef) () A.1 (by kernel_rfl) (by decide) (by decide) ⟨BB, FA, FM, FT⟩ ?_ ?_
      · intro i_ hi_ s a X hf hv hn hS
        match i_, hi_ with
        | 0, _ => exact stepV rfl rfl (execMvB rfl ((hf 71 (by decide)).trans t71)) ⟨s, ⟨_, rfl, rfl⟩, hS, fun _ _ => rfl⟩
        | 1, _ => exact stepV rfl rfl (execAsgB rfl (hv 0 (by omega) _ rfl _ rfl)) ⟨s, ⟨_, rfl, rfl⟩, hS, fun _ _ => rfl⟩
        | k_ + 2, h_ => exact absurd h_ (by simp)
      rintro _ a X27 h1 h2 h3 h4 hS
      clear BB
      clear FA
      clear FM
      clear FT
      replace hS : Below U.heap.size U X27 ∧ (AS U V X27 m x y nn dd fx fy gl C) ∧ (X27.ownsRow bm 23 1 (.slice (some ⟨gm, 0, none⟩) m m) m (lL z m)) ∧ (X27.ownsRow U.heap.size 3 1 (.slice (some ⟨g68, 0, none⟩) 100 100) 100 (intsL 100 (fun l => if l < j then -2000 - (i : Int) else 0))) := hS
      obtain ⟨BB, FA, FM, FT⟩ := hS
      replace t0 := (h3 0 (by decide)).trans t0
      replace t6 := (h3 6 (by decide)).trans t6
      replace t61 := (h3 61 (by decide)).trans t61
      replace t62 := (h3 62 (by decide)).trans t62
      replace t63 := (h3 63 (by decide)).trans t63
      replace t10 := (h3 10 (by decide)).trans t10
      replace t11 := (h3 11 (by decide)).trans t11
      replace t12 := (h3 12 (by decide)).trans t12
      replace t70 := (h3 70 (by decide)).trans t70
      replace t71 := (h3 71 (by decide)).trans t71
      have t13 : a.eval (.tmp 13) = .int .i64 ((j : Nat) : Int) := h4 1 _ rfl _ rfl
      replace A := (⟨h1, h2.trans A.2⟩ : a.tmps.size = 136 ∧ a.defers = [])
      clear h1 h2 h3 h4
      refine wp_region_sq (σ := Unit) 136 [(0, 74), (1, 75), (2, 76), (3, 77), (4, 78)] (fun j_ s X => match j_ with | 0 => Below U.heap.size U X ∧ (AS U V X m x y nn dd fx fy gl C) ∧ (X.ownsRow bm 23 1 (.slice (some ⟨gm, 0, none⟩) m m) m (lL z m)) ∧ (X.ownsRow U.heap.size 3 1 (.slice (some ⟨g68, 0, none⟩) 100 100) 100 (intsL 100 (fun l => if l < j then -2000 - (i : Int) else 0))) | 1 => Below U.heap.size U X ∧ (AS U V X m x y nn dd fx fy gl C) ∧ (X.ownsRow bm 23 1 (.slice (some ⟨gm, 0, none⟩) m m) m (lL z m)) ∧ (X.ownsRow U.heap.size 3 1 (.slice (some ⟨g68, 0, none⟩) 100 100) 100 (intsL 100 (fun l => if l < j then -2000 - (i : Int) else 0))) | 2 => Below U.heap.size U X ∧ (AS U V X m x y nn dd fx fy gl C) ∧ (X.ownsRow bm 23 1 (.slice (some ⟨gm, 0, none⟩) m m) m (lL z m)) ∧ (X.ownsRow U.heap.size 3 1 (.slice (some ⟨g68, 0, none⟩) 100 100) 100 (intsL 100 (fun l => if l < j then -2000 - (i : Int) else 0))) | 3 => Below U.heap.size U X ∧ (AS U V X m x y nn dd fx fy gl C) ∧ (X.ownsRow bm 23 1 (.slice (some ⟨gm, 0, none⟩) m m) m (lL z m)) ∧ (X.ownsRow U.heap.size 3 1 (.slice (some ⟨g68, 0, none⟩) 100 100) 100 (intsL 100 (fun l => if l < j then -2000 - (i : Int) else 0))) | 4 => Below U.heap.size U X ∧ (AS U V X m x y nn dd fx fy gl C) ∧ (X.ownsRow bm 23 1 (.slice (some ⟨gm, 0, none⟩) m m) m (lL z m)) ∧ (X.ownsRow U.heap.size 3 1 (.slice (some ⟨g68, 0, none⟩) 100 100) 100 (intsL 100 (fun l => if l < j then -2000 - (i : Int) else 0))) | 5 => Below U.heap.size U X ∧ (AS U V X m x y nn dd fx fy gl C) ∧ (X.ownsRow bm 23 1 (.slice (some ⟨gm, 0, none⟩) m m) m (lL z m)) ∧ (X.ownsRow U.heap.size 3 1 (.slice (some ⟨g68, 0, none⟩) 100 100) 100 (intsL 100 (fun l => if l < j then -2000 - (i : Int) else 0))) | _ => Below U.heap.size U X ∧ (AS U V X m x y nn dd fx fy gl C) ∧ (X.ownsRow bm 23 1 (.slice (some ⟨gm, 0, none⟩) m m) m (lL z m)) ∧ (X.ownsRow U.heap.size 3 1 (.slice (some ⟨g68, 0, none⟩) 100 100) 100 (intsL 100 (fun l => if l < (j + 1) then -2000 - (i : Int) else 0)))) (fun s => fun i_ => match i_ with | 0 => .slice (some ⟨g68, 0, none⟩) 100 100 | 1 => .int .i64 ((j : Nat) : Int) | 2 => .int .i64 ((i : Nat) : Int) | 3 => .int .i64 (-2000 - (i : Int)) | 4 => .pointer (some ⟨g68, 0 + j, none⟩) | 5 => undef | _ => undef) () A.1 (by kernel_rfl) (by decide) (by decide) ⟨BB, FA, FM, FT⟩ ?_ ?_
      · intro i_ hi_ s a X hf hv hn hS
        match i_, hi_ with
        | 0, _ => exact stepV rfl rfl (execMvB rfl ((hf 12 (by decide)).trans t12)) ⟨s, ⟨_, rfl, rfl⟩, hS, fun _ _ => rfl⟩
        | 1, _ => exact stepV rfl rfl (execMvB rfl ((hf 13 (by decide)).trans t13)) ⟨s, ⟨_, rfl, rfl⟩, hS, fun _ _ => rfl⟩
        | 2, _ => exact stepV rfl rfl (execMvB rfl ((hf 10 (by decide)).trans t10)) ⟨s, ⟨_, rfl, rfl⟩, hS, fun _ _ => rfl⟩
        | 3, _ => exact stepV rfl rfl (execSubIg (p := -2000) (q := (i : Int)) (z := -2000 - (i : Int)) rfl rfl (hv 2 (by omega) _ rfl _ rfl) rfl (by omega) (by omega)) ⟨s, ⟨_, rfl, rfl⟩, hS, fun _ _ => rfl⟩
        | 4, _ => exact stepV rfl rfl (execIdxN (k := j) rfl (hv 0 (by omega) _ rfl _ rfl) (hv 1 (by omega) _ rfl _ rfl) ltj) ⟨s, ⟨_, rfl, rfl⟩, hS, fun _ _ => rfl⟩
        | 5, _ =>
          obtain ⟨hc_, hf_⟩ := own_cellI hS.2.2.2 ltj
          obtain ⟨cu_, hg_, _⟩ := own_cur hS.2.2.2
          refine stepS rfl rfl (execStI9 rfl (hv 4 (by omega) _ rfl _ rfl) (hv 3 (by omega) _ rfl _ rfl) hc_ hf_) ⟨s, ⟨_, rfl, rfl⟩, ⟨(hS.1).setCell Fg _, hS.2.1.setT hg_ Fn Fg Fv, own_offT hS.2.2.1 hg_ (by decide), own_fill (F := fun _ => -2000 - (i : Int)) hS.2.2.2 rfl⟩, fun i hi => ?_⟩
          match i, hi with
          | 0, _ => rfl
          | 1, _ => rfl
          | 2, _ => rfl
          | 3, _ => rfl
          | 4, _ => rfl
          | n_ + 5, h_ => omega
        | k_ + 6, h_ => exact absurd h_ (by simp)
      rintro _ a X28 h1 h2 h3 h4 hS
      clear BB
      clear FA
      clear FM
      clear FT
      replace hS : Below U.heap.size U X28 ∧ (AS U V X28 m x y nn dd fx fy gl C) ∧ (X28.ownsRow bm 23 1 (.slice (some ⟨gm, 0, none⟩) m m) m (lL z m)) ∧ (X28.ownsRow U.heap.size 3 1 (.slice (some ⟨g68, 0, none⟩) 100 100) 100 (intsL 100 (fun l => if l < (j + 1) then -2000 - (i : Int) else 0))) := hS
      obtain ⟨BB, FA2, FM2, FT2⟩ := hS
      replace t0 := (h3 0 (by decide)).trans t0
      replace t6 := (h3 6 (by decide)).trans t6
      replace t61 := (h3 61 (by decide)).trans t61
      replace t62 := (h3 62 (by decide)).trans t62
      replace t63 := (h3 63 (by decide)).trans t63
      replace t10 := (h3 10 (by decide)).trans t10
      replace t11 := (h3 11 (by decide)).trans t11
      replace t12 := (h3 12 (by decide)).trans t12
      replace t70 := (h3 70 (by decide)).trans t70
      replace t71 := (h3 71 (by decide)).trans t71
      replace A := (⟨h1, h2.trans A.2⟩ : a.tmps.size = 136 ∧ a.defers = [])
      clear h1 h2 h3 h4
      clear t13
      refine wp_region_sq (σ := Unit) 136 [(0, 79), (1, 71)] (fun j_ s X => match j_ with | 0 => Below U.heap.size U X ∧ (AS U V X m x y nn dd fx fy gl C) ∧ (X.ownsRow bm 23 1 (.slice (some ⟨gm, 0, none⟩) m m) m (lL z m)) ∧ (X.ownsRow U.heap.size 3 1 (.slice (some ⟨g68, 0, none⟩) 100 100) 100 (intsL 100 (fun l => if l < (j + 1) then -2000 - (i : Int) else 0))) | 1 => Below U.heap.size U X ∧ (AS U V X m x y nn dd fx fy gl C) ∧ (X.ownsRow bm 23 1 (.slice (some ⟨gm, 0, none⟩) m m) m (lL z m)) ∧ (X.ownsRow U.heap.size 3 1 (.slice (some ⟨g68, 0, none⟩) 100 100) 100 (intsL 100 (fun l => if l < (j + 1) then -2000 - (i : Int) else 0))) | _ => Below U.heap.size U X ∧ (AS U V X m x y nn dd fx fy gl C) ∧ (X.ownsRow bm 23 1 (.slice (some ⟨gm, 0, none⟩) m m) m (lL z m)) ∧ (X.ownsRow U.heap.size 3 1 (.slice (some ⟨g68, 0, none⟩) 100 100) 100 (intsL 100 (fun l => if l < (j + 1) then -2000 - (i : Int) else 0)))) (fun s => fun i_ => match i_ with | 0 => .int .i64 ((j + 1 : Nat) : Int) | 1 => .int .i64 ((j + 1 : Nat) : Int) | _ => undef) () A.1 (by kernel_rfl) (by decide) (by decide) ⟨BB, FA2, FM2, FT2⟩ ?_ ?_
      · intro i_ hi_ s a X hf hv hn hS
        match i_, hi_ with
        | 0, _ => exact stepV rfl rfl (execAd8 (p := j) (q := 1) rfl ((hn 1 (by omega) _ rfl _ rfl).trans t71) rfl (by omega)) ⟨s, ⟨_, rfl, rfl⟩, hS, fun _ _ => rfl⟩
        | 1, _ => exact stepV rfl rfl (execMvB rfl (hv 0 (by omega) _ rfl _ rfl)) ⟨s, ⟨_, rfl, rfl⟩, hS, fun _ _ => rfl⟩
        | k_ + 2, h_ => exact absurd h_ (by simp)
      rintro _ a X29 h1 h2 h3 h4 hS
      clear BB
      clear FA2
      clear FM2
      clear FT2
      replace hS : Below U.heap.size U X29 ∧ (AS U V X29 m x y nn dd fx fy gl C) ∧ (X29.ownsRow bm 23 1 (.slice (some ⟨gm, 0, none⟩) m m) m (lL z m)) ∧ (X29.ownsRow U.heap.size 3 1 (.slice (some ⟨g68, 0, none⟩) 100 100) 100 (intsL 100 (fun l => if l < (j + 1) then -2000 - (i : Int) else 0))) := hS
      obtain ⟨BB, FA2, FM2, FT2⟩ := hS
      replace t0 := (h3 0 (by decide)).trans t0
      replace t6 := (h3 6 (by decide)).trans t6
      replace t61 := (h3 61 (by decide)).trans t61
      replace t62 := (h3 62 (by decide)).trans t62
      replace t63 := (h3 63 (by decide)).trans t63
      replace t10 := (h3 10 (by decide)).trans t10
      replace t11 := (h3 11 (by decide)).trans t11
      replace t12 := (h3 12 (by decide)).trans t12
      replace t70 := (h3 70 (by decide)).trans t70
      replace t71 : a.eval (.tmp 71) = .int .i64 ((j + 1 : Nat) : Int) := h4 1 _ rfl _ rfl
      replace A := (⟨h1, h2.trans A.2⟩ : a.tmps.size = 136 ∧ a.defers = [])
      clear h1 h2 h3 h4
      exact ⟨⟨j + 1, ltj, A, t0, t6, t61, t62, t63, t10, t11, t12, t70, t71, BB, FA2, FM2, FT2⟩, by show 100 - (intOf (a.eval (.tmp 71))).toNat < 100 - (intOf (Act.eval _ (.tmp 71))).toNat; rw [t71, esj]; show 100 - (j + 1) < 100 - j; omega⟩
    · rw [decide_eq_false ltj] at t72
      refine wp_cond_false t72 ?_
      refine wp_exit ?_
      first | refine exit_in ?_ | refine exit_then (exit_in ?_) | refine exit_then (exit_then (exit_in ?_))
      clear t72 esj
      obtain rfl : j = 100 := by omega
      clear t70 t71 ltj hj
      refine wp_region_sq (σ := Value) 136 [(0, 80), (1, 81), (2, 82), (3, 83), (4, 84), (5, 85)] (fun j_ s X => match j_ with | 0 => Below U.heap.size U X ∧ (AS U V X m x y nn dd fx fy gl C) ∧ (X.ownsRow bm 23 1 (.slice (some ⟨gm, 0, none⟩) m m) m (lL z m)) ∧ (X.ownsRow U.heap.size 3 1 (.slice (some ⟨g68, 0, none⟩) 100 100) 100 (intsL 100 (fun l => if l < 100 then -2000 - (i : Int) else 0))) | 1 => Below U.heap.size U X ∧ (AS U V X m x y nn dd fx fy gl C) ∧ (X.ownsRow bm 23 1 (.slice (some ⟨gm, 0, none⟩) m m) m (lL z m)) ∧ (X.ownsRow U.heap.size 3 1 (.slice (some ⟨g68, 0, none⟩) 100 100) 100 (intsL 100 (fun l => if l < 100 then -2000 - (i : Int) else 0))) | 2 => Below U.heap.size U X ∧ (AS U V X m x y nn dd fx fy gl C) ∧ (X.ownsRow bm 23 1 (.slice (some ⟨gm, 0, none⟩) m m) m (lL z m)) ∧ (X.ownsRow U.heap.size 3 1 (.slice (some ⟨g68, 0, none⟩) 100 100) 100 (intsL 100 (fun l => if l < 100 then -2000 - (i : Int) else 0))) | 3 => Below U.heap.size U X ∧ (AS U V X m x y nn dd fx fy gl C) ∧ (X.ownsRow bm 23 1 (.slice (some ⟨gm, 0, none⟩) m m) m (lL z m)) ∧ (X.ownsRow U.heap.size 3 1 (.slice (some ⟨g68, 0, none⟩) 100 100) 100 (intsL 100 (fun l => if l < 100 then -2000 - (i : Int) else 0))) | 4 => Below U.heap.size U X ∧ (AS U V X m x y nn dd fx fy gl C) ∧ (X.ownsRow bm 23 1 (.slice (some ⟨gm, 0, none⟩) m m) m (lL z m)) ∧ (X.ownsRow U.heap.size 3 1 (.slice (some ⟨g68, 0, none⟩) 100 100) 100 (intsL 100 (fun l => if l < 100 then -2000 - (i : Int) else 0))) | 5 => Below U.heap.size U X ∧ (AS U V X m x (updX y i s) nn (updD dd i 100) fx (updG fy i (catI (nn i + dd i) (fy i) (fun _ => -2000 - (i : Int)))) gl C) ∧ (X.ownsRow bm 23 1 (.slice (some ⟨gm, 0, none⟩) m m) m (lL z m)) | 6 => Below U.heap.size U X ∧ (AS U V X m x (updX y i s) nn (updD dd i 100) fx (updG fy i (catI (nn i + dd i) (fy i) (fun _ => -2000 - (i : Int)))) gl C) ∧ (X.ownsRow bm 23 1 (.slice (some ⟨gm, 0, none⟩) m m) m (lL z m)) | _ => Below U.heap.size U X ∧ (AS U V X m x (updX y i s) nn (updD dd i 100) fx (updG fy i (catI (nn i + dd i) (fy i) (fun _ => -2000 - (i : Int)))) gl C) ∧ (X.ownsRow bm 23 1 (.slice (some ⟨gm, 0, none⟩) m m) m (lL (updX z i s) m))) (fun s => fun i_ => match i_ with | 0 => .slice (some ⟨gm, 0, none⟩) m m | 1 => .int .i64 ((i : Nat) : Int) | 2 => y i | 3 => .slice (some ⟨g68, 0, none⟩) 100 100 | 4 => s | 5 => .pointer (some ⟨gm, 0 + i, none⟩) | 6 => undef | _ => undef) undef A.1 (by kernel_rfl) (by decide) (by decide) ⟨BB, FA, FM, FT⟩ ?_ ?_
      · intro i_ hi_ s a X hf hv hn hS
        match i_, hi_ with
        | 0, _ => exact stepV rfl rfl (execMvB rfl ((hf 6 (by decide)).trans t6)) ⟨s, ⟨_, rfl, rfl⟩, hS, fun _ _ => rfl⟩
        | 1, _ => exact stepV rfl rfl (execMvB rfl ((hf 10 (by decide)).trans t10)) ⟨s, ⟨_, rfl, rfl⟩, hS, fun _ _ => rfl⟩
        | 2, _ => exact stepV rfl rfl (execMvB rfl ((hf 11 (by decide)).trans t11)) ⟨s, ⟨_, rfl, rfl⟩, hS, fun _ _ => rfl⟩
        | 3, _ => exact stepV rfl rfl (execMvB rfl ((hf 12 (by decide)).trans t12)) ⟨s, ⟨_, rfl, rfl⟩, hS, fun _ _ => rfl⟩
        | 4, _ =>
          refine stepAS (t := i) (q := fun _ => -2000 - (i : Int)) rfl rfl rfl (hv 2 (by omega) _ rfl _ rfl) (hv 3 (by omega) _ rfl _ rfl) hS.2.1 lti ((own_ints hS.2.2.2 (tail_fits hi hm)).cg fun l hl => if_pos hl) ⟨_, _, rfl⟩ (by decide) (by omega) fun v' W' has gr => ⟨v', ⟨_, rfl, rfl⟩, ⟨has.bel, has, own_overT hS.2.2.1 (hS.2.1.gp.ry i lti) gr (by decide)⟩, fun i hi => ?_⟩
          match i, hi with
          | 0, _ => rfl
          | 1, _ => rfl
          | 2, _ => rfl
          | 3, _ => rfl
          | n_ + 4, h_ => omega
        | 5, _ => exact stepV rfl rfl (execIdxLI (k := i) rfl (hv 0 (by omega) _ rfl _ rfl) (hv 1 (by omega) _ rfl _ rfl) lti) ⟨s, ⟨_, rfl, rfl⟩, hS, fun _ _ => rfl⟩
        | 6, _ =>
          obtain ⟨cu_, hg_, hgB_⟩ := own_cur hS.2.2
          refine stepS rfl rfl (execStLI rfl (hv 5 (by omega) _ rfl _ rfl) (hv 4 (by omega) _ rfl _ rfl) (by have h_ := hS.2.1.gp.ry i lti; rw [show updX y i s i = s from if_pos rfl] at h_; exact shp3 h_) (ownL_cellI hS.2.2 lti) (frozen4 hg_)) ⟨s, ⟨_, rfl, rfl⟩, ⟨(hS.1).setCell (Nat.le_trans hbU hgB_) _, hS.2.1.setM hg_ (by omega) (Nat.le_trans hbU hgB_) (Nat.le_trans hbV hgB_), ownL_setI hS.2.2⟩, fun i hi => ?_⟩
          match i, hi with
          | 0, _ => rfl
          | 1, _ => rfl
          | 2, _ => rfl
          | 3, _ => rfl
          | 4, _ => rfl
          | 5, _ => rfl
          | n_ + 6, h_ => omega
        | k_ + 7, h_ => exact absurd h_ (by simp)
      rintro v84 a X30 h1 h2 h3 h4 hS
      clear BB
      clear FA
      clear FM
      clear FT
      replace hS : Below U.heap.size U X30 ∧ (AS U V X30 m x (updX y i v84) nn (updD dd i 100) fx (updG fy i (catI (nn i + dd i) (fy i) (fun _ => -2000 - (i : Int)))) gl C) ∧ (X30.ownsRow bm 23 1 (.slice (some ⟨gm, 0, none⟩) m m) m (lL (updX z i v84) m)) := hS
      obtain ⟨BB, FA3, FM3⟩ := hS
      replace t0 := (h3 0 (by decide)).trans t0
      replace t6 := (h3 6 (by decide)).trans t6
      replace t61 := (h3 61 (by decide)).trans t61
      replace t62 := (h3 62 (by decide)).trans t62
      replace t63 := (h3 63 (by decide)).trans t63
      replace A := (⟨h1, h2.trans A.2⟩ : a.tmps.size = 136 ∧ a.defers = [])
      clear h1 h2 h3 h4
      clear t10 t11 t12
      refine wp_region_sq (σ := Unit) 136 [(0, 86), (1, 63)] (fun j_ s X => match j_ with | 0 => Below U.heap.size U X ∧ (AS U V X m x (updX y i v84) nn (updD dd i 100) fx (updG fy i (catI (nn i + dd i) (fy i) (fun _ => -2000 - (i : Int)))) gl C) ∧ (X.ownsRow bm 23 1 (.slice (some ⟨gm, 0, none⟩) m m) m (lL (updX z i v84) m)) | 1 => Below U.heap.size U X ∧ (AS U V X m x (updX y i v84) nn (updD dd i 100) fx (updG fy i (catI (nn i + dd i) (fy i) (fun _ => -2000 - (i : Int)))) gl C) ∧ (X.ownsRow bm 23 1 (.slice (some ⟨gm, 0, none⟩) m m) m (lL (updX z i v84) m)) | _ => Below U.heap.size U X ∧ (AS U V X m x (updX y i v84) nn (updD dd i 100) fx (updG fy i (catI (nn i + dd i) (fy i) (fun _ => -2000 - (i : Int)))) gl C) ∧ (X.ownsRow bm 23 1 (.slice (some ⟨gm, 0, none⟩) m m) m (lL (updX z i v84) m))) (fun s => fun i_ => match i_ with | 0 => .int .i64 ((i + 1 : Nat) : Int) | 1 => .int .i64 ((i + 1 : Nat) : Int) | _ => undef) () A.1 (by kernel_rfl) (by decide) (by decide) ⟨BB, FA3, FM3⟩ ?_ ?_
      · intro i_ hi_ s a X hf hv hn hS
        match i_, hi_ with
        | 0, _ => exact stepV rfl rfl (execAd8 (p := i) (q := 1) rfl ((hn 1 (by omega) _ rfl _ rfl).trans t63) rfl (by omega)) ⟨s, ⟨_, rfl, rfl⟩, hS, fun _ _ => rfl⟩
        | 1, _ => exact stepV rfl rfl (execMvB rfl (hv 0 (by omega) _ rfl _ rfl)) ⟨s, ⟨_, rfl, rfl⟩, hS, fun _ _ => rfl⟩
        | k_ + 2, h_ => exact absurd h_ (by simp)
      rintro _ a X31 h1 h2 h3 h4 hS
      clear BB
      clear FA3
      clear FM3
      replace hS : Below U.heap.size U X31 ∧ (AS U V X31 m x (updX y i v84) nn (updD dd i 100) fx (updG fy i (catI (nn i + dd i) (fy i) (fun _ => -2000 - (i : Int)))) gl C) ∧ (X31.ownsRow bm 23 1 (.slice (some ⟨gm, 0, none⟩) m m) m (lL (updX z i v84) m)) := hS
      obtain ⟨BB, FA3, FM3⟩ := hS
      replace t0 := (h3 0 (by decide)).trans t0
      replace t6 := (h3 6 (by decide)).trans t6
      replace t61 := (h3 61 (by decide)).trans t61
      replace t62 := (h3 62 (by decide)).trans t62
      replace t63 : a.eval (.tmp 63) = .int .i64 ((i + 1 : Nat) : Int) := h4 1 _ rfl _ rfl
      replace A := (⟨h1, h2.trans A.2⟩ : a.tmps.size = 136 ∧ a.defers = [])
      clear h1 h2 h3 h4
      exact ⟨⟨i + 1, _, _, _, _, lti, fun t ht => by unfold updX; rw [hz t ht], fun t h1 ht => by rw [updD_o (by omega)]; exact hd8 t (by omega) ht, grow_dd hdd (by omega), grow_fy hfy, A, t0, t6, t61, t62, t63, BB, FA3, FM3⟩, by show m - (intOf (a.eval (.tmp 63))).toNat < m - (intOf (Act.eval _ (.tmp 63))).toNat; rw [t63, esi]; show m - (i + 1) < m - i; omega⟩
  · rw [decide_eq_false lti] at t64
    refine wp_cond_false t64 ?_
    refine wp_exit ?_
    first | refine exit_in ?_ | refine exit_then (exit_in ?_) | refine exit_then (exit_then (exit_in ?_))
    clear t64 esi
    exact apart32 U V m gl cl x nn C hm hC hnn _ y z dd fx fy gm bm hfx hfy hdd hz BB FA FM a A t0 t6
end Go.Proofs.Ytdecmmcphcomhaa.Brd
