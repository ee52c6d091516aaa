import Derived.Test.YtigkmgoidbamnaaW9c
namespace Go.Proofs.Ytigkmgoidbamnaa.Tap
open Go.RowKit Gf8 Aes By8 Cel Cf
/- TapeScripts: a new tape. Written by tools/mkW9d.py. -/

/-- append to a row that is there: the answer is one too. -/
theorem stepAppS9 {ops : Array Oper} {Q : Exit → Act → World → Prop} {K : Act → World → Prop} {j : Nat} {o : Oper} {a : Act} {W : World} {s x : Operand} {B g cap m : Nat} {u : Value} {p : Nat → Nat} (hos : ops[j]? = some o) (hgd : Region.wanted o (yielded ops a.tmps) = true)
    (ho : o.op = .call { callee := .builtin .append, args := #[s, x], argTypes := #[27, 27] }) (hs : a.eval s = .slice (some ⟨g, 0, none⟩) 0 cap) (hx : a.eval x = u) (hown : W.ownsRow B 5 1 (.slice (some ⟨g, 0, none⟩) 0 cap) 0 (bytesL 0 p)) (hu : SliceN W u m p) (hnil : ∀ l c, u = .slice none l c → c = 0) (hbig : m ≤ 140737488351232) (hB : B ≤ W.heap.size)
    (hK : ∀ g' c' W', W'.ownsRow B 5 1 (.slice (some ⟨g', 0, none⟩) m c') m (bytesL m p) → B ≤ g' → W.grownBy W' (some g) → K (a.put o.dst (.slice (some ⟨g', 0, none⟩) m c')) W') : wpOp Try.prog ops Q j K a W := by
  by_cases h0 : m = 0
  · subst h0
    obtain ⟨i, i1, i2, i3, i4⟩ := info5
    obtain ⟨⟨ua, uc, rfl, u1, u2, u3⟩, _⟩ := hu
    have hr : (Builtin.append_ #[27, 27] o.type #[.slice (some ⟨g, 0, none⟩) 0 cap, .slice ua 0 uc]).run Try.prog W = .ok (.slice (some ⟨g, 0, none⟩) 0 cap) W := by
      cases ua with
      | none =>
        rw [hnil _ _ rfl]
        exact run_append_owned_none (P := Try.prog) W B 27 o.type 5 i 1 Try.underlying27 i1 _ 0 _ hown
      | some ad =>
        rcases hown.2 with ⟨e, _⟩ | ⟨g', c', cur, e, _, hg, h1, h2, h3, h4⟩
        · cases e
        · injection e with e1 _ e2
          injection e1 with e1
          injection e1 with e1 _ _
          subst e1
          subst e2
          have h := run_append_room (P := Try.prog) W 27 o.type 5 i Try.underlying27 i1 g 0 cap cur hg ad 0 uc [] (by simp) (by simp) (by simp) (by omega) (by simp)
          simp only [Nat.zero_mul, List.take_zero, List.nil_append, List.length_nil, Nat.add_zero, List.drop_zero, Array.toArray_toList] at h
          rw [setRow_self W g cur 5 (0, 0) hg] at h
          exact h
    refine stepV hos hgd (v := .slice (some ⟨g, 0, none⟩) 0 cap) (w' := W) ?_ (hK g cap W hown ((hown.lt g rfl).1) ⟨rfl, rfl, rfl, Nat.le_refl _, fun _ _ _ => rfl⟩)
    unfold execOp
    simp only [ho, resolve, invoke, builtin, Sem.run_bind, Sem.run_pure, Result.andThen_ok, List.map_toArray, List.map_cons, List.map_nil, hs, hx, hr]
  · refine stepAppN (n := 0) (p := p) hos hgd ho hs hx hown (sliceN_cg hu fun j _ => by rw [Nat.zero_add]) hnil (by omega) hB fun v' W' own' gr => ?_
    rw [Nat.zero_add] at own'
    obtain ⟨g', c', rfl, h1, _⟩ := ownL_some own' (by omega)
    exact hK g' c' W' own' h1 gr
theorem ne_tyM {W : World} {g k : Nat} {c d : Array Value} {t u : TypeId} {fr : Nat × Nat} (h : W.heap[g]? = some (.cells c t)) (hk : W.heap[k]? = some (.cells d u fr)) (ht : t ≠ u) : g ≠ k := by
  intro e
  subst e
  rw [h] at hk
  injection hk with hk
  injection hk with _ hk _
  exact ht hk
set_option maxRecDepth 100000 in
set_option maxHeartbeats 4000000 in
theorem scr_case0 (V W : World) (tv bv : Value) (m : Nat) (P : Nat → Nat → Nat) (Ln At : Nat → Nat) (pvs : Nat → Value) (FT : TB V tv bv m P Ln At pvs W) (hm : m ≤ 3000000000000) (g6 : Nat) (kd tt nn : Int) (pw : Value) (F6 : W.heap[g6]? = some (.cells (stC kd tt nn pw) 32)) (BW : Below V.heap.size V W) (sc : Value) (n i : Nat) (lp : Nat) (pf : Nat → Nat) (hpw : SliceN V pw lp pf) (hlp : lp ≤ 140737488351232) (nw : ∀ l c, pw = .slice none l c → c = 0)
    (a : Act) (A : a.tmps.size = 270 ∧ a.defers = []) (t3 : a.eval (.tmp 3) = tv) (t4 : a.eval (.tmp 4) = bv) (t6 : a.eval (.tmp 6) = .pointer (some ⟨g6, 0, none⟩)) (t39 : a.eval (.tmp 39) = sc) (t40 : a.eval (.tmp 40) = .int .i64 ((n : Nat) : Int)) (t41 : a.eval (.tmp 41) = .int .i64 ((i : Nat) : Int))
    (Q : Exit → Act → World → Prop) (hQ : ∀ (a : Act) (X : World) (tv bv : Value) (m' : Nat) (P : Nat → Nat → Nat) (Ln At : Nat → Nat) (pvs : Nat → Value), (a.tmps.size = 270 ∧ a.defers = []) → a.eval (.tmp 3) = tv → a.eval (.tmp 4) = bv → a.eval (.tmp 6) = .pointer (some ⟨g6, 0, none⟩) → a.eval (.tmp 39) = sc → a.eval (.tmp 40) = .int .i64 ((n : Nat) : Int) → a.eval (.tmp 41) = .int .i64 ((i : Nat) : Int) → Below V.heap.size V X → TB V tv bv m' P Ln At pvs X → m' ≤ m + 1 → X.heap[g6]? = some (.cells (stC kd tt nn pw) 32) → Q .normal a X) :
    (findR 11 (Try.f3.body.getD .skip)).wp Try.prog Q a W := by
  have FP := hpw.on BW
  have hpf := hpw.bytes
  have spw : ∃ g l k, pw = .slice g l k := by obtain ⟨g, c, e⟩ := shp9 hpw; exact ⟨g, _, c, e⟩
  have ZW0 := BW.size
  refine wp_seq ?_
  refine wp_region_sq (σ := Nat × Nat × Nat) 270 [(0, 62), (1, 63), (2, 64), (3, 65), (4, 10)] (fun j_ s X => match j_ with | 0 => Below W.heap.size W X | 1 => Below W.heap.size W X ∧ X.ownsRow (W.heap.size) 5 1 (.slice (some ⟨s.1, 0, none⟩) 0 0) (0) (bytesL 0 pf) | 2 => Below W.heap.size W X ∧ X.ownsRow (W.heap.size) 5 1 (.slice (some ⟨s.1, 0, none⟩) 0 0) (0) (bytesL 0 pf) | 3 => Below W.heap.size W X ∧ X.ownsRow (W.heap.size) 5 1 (.slice (some ⟨s.1, 0, none⟩) 0 0) (0) (bytesL 0 pf) | 4 => Below W.heap.size W X ∧ X.ownsRow (W.heap.size) 5 1 (.slice (some ⟨s.2.1, 0, none⟩) lp s.2.2) (lp) (bytesL lp pf) ∧ (W.heap.size ≤ s.2.1) | _ => Below W.heap.size W X ∧ X.ownsRow (W.heap.size) 5 1 (.slice (some ⟨s.2.1, 0, none⟩) lp s.2.2) (lp) (bytesL lp pf) ∧ (W.heap.size ≤ s.2.1)) (fun s => fun i_ => match i_ with | 0 => .slice (some ⟨s.1, 0, none⟩) 0 0 | 1 => .pointer (some ⟨g6, 3, none⟩) | 2 => pw | 3 => .slice (some ⟨s.2.1, 0, none⟩) lp s.2.2 | 4 => .slice (some ⟨s.2.1, 0, none⟩) lp s.2.2 | _ => undef) (0, 0, 0) A.1 (by kernel_rfl) (by decide) (by decide) (Below.refl _ _) ?_ ?_
  · intro i_ hi_ s a X hf hv hn hS
    match i_, hi_ with
    | 0, _ =>
      refine stepV rfl rfl (execBs0 rfl) ⟨(X.heap.size, s.2.1, s.2.2), ⟨_, rfl, rfl⟩, ⟨(hS).trans (((belNew X _)).mono (hS).size), own_base (own_none X _) (hS).size⟩, fun i hi => ?_⟩
      omega
    | 1, _ => exact stepV rfl rfl (execFldS3 rfl ((hf 6 (by decide)).trans t6)) ⟨s, ⟨_, rfl, rfl⟩, hS, fun _ _ => rfl⟩
    | 2, _ => exact stepV rfl rfl (execLdL rfl (hv 1 (by omega) _ rfl _ rfl) (stC_at (on9 F6 hS.1)).2.2.2) ⟨s, ⟨_, rfl, rfl⟩, hS, fun _ _ => rfl⟩
    | 3, _ =>
      refine stepAppS9 (p := pf) rfl rfl rfl (hv 0 (by omega) _ rfl _ rfl) (hv 2 (by omega) _ rfl _ rfl) hS.2 (FP.on hS.1) nw hlp (hS.1).size fun g' c' W' own' hg' gr => ⟨(s.1, g', c'), ⟨_, rfl, rfl⟩, ⟨(hS.1).grown gr (hS.1).size (fun k hk => by obtain rfl := Option.some.inj hk; exact (hS.2.lt _ rfl).1), own', hg'⟩, fun i hi => ?_⟩
      match i, hi with
      | 0, _ => rfl
      | 1, _ => rfl
      | 2, _ => rfl
      | n_ + 3, h_ => omega
    | 4, _ => exact stepV rfl rfl (execAsgB rfl (hv 3 (by omega) _ rfl _ rfl)) ⟨s, ⟨_, rfl, rfl⟩, hS, fun _ _ => rfl⟩
    | k_ + 5, h_ => exact absurd h_ (by simp)
  rintro ⟨g62, gi, ci⟩ a X11 h1 h2 h3 h4 hS
  replace hS : Below W.heap.size W X11 ∧ X11.ownsRow (W.heap.size) 5 1 (.slice (some ⟨gi, 0, none⟩) lp ci) (lp) (bytesL lp pf) ∧ (W.heap.size ≤ gi) := hS
  obtain ⟨bX, FO, Fgi⟩ := hS
  replace t3 := (h3 3 (by decide)).trans t3
  replace t4 := (h3 4 (by decide)).trans t4
  replace t6 := (h3 6 (by decide)).trans t6
  replace t39 := (h3 39 (by decide)).trans t39
  replace t40 := (h3 40 (by decide)).trans t40
  replace t41 := (h3 41 (by decide)).trans t41
  have t10 : a.eval (.tmp 10) = .slice (some ⟨gi, 0, none⟩) lp ci := h4 4 _ rfl _ rfl
  replace FT := (FT.on bX)
  replace F6 := (on9 F6 bX)
  replace FP := (FP.on bX)
  have ZX11 := bX.size
  replace BW := BW.trans (bX.mono BW.size)
  clear bX
  replace A := (⟨h1, h2.trans A.2⟩ : a.tmps.size = 270 ∧ a.defers = [])
  clear h1 h2 h3 h4
  have hgi := Nat.le_trans ZW0 Fgi
  have FI := own_sl FO hpf
  refine wp_seq ?_
  refine wp_region_sq (σ := Nat) 270 [(0, 66), (1, 67), (2, 11)] (fun j_ s X => match j_ with | 0 => Below X11.heap.size X11 X | 1 => Below X11.heap.size X11 X | 2 => Below X11.heap.size X11 X | 3 => Below X11.heap.size X11 X ∧ X.heap[s]? = some (.cells (tpC (fun _ => 0) 0 0) 25) ∧ (X11.heap.size ≤ s) | _ => Below X11.heap.size X11 X ∧ (X11.heap.size ≤ s) ∧ X.heap[s]? = some (.cells (tpC pf lp 0) 25)) (fun s => fun i_ => match i_ with | 0 => .slice (some ⟨gi, 0, none⟩) lp ci | 1 => .agg (tpC pf lp 0) | 2 => .pointer (some ⟨s, 0, none⟩) | 3 => undef | _ => undef) 0 A.1 (by kernel_rfl) (by decide) (by decide) (Below.refl _ _) ?_ ?_
  · intro i_ hi_ s a X hf hv hn hS
    match i_, hi_ with
    | 0, _ => exact stepV rfl rfl (execMvB rfl ((hf 10 (by decide)).trans t10)) ⟨s, ⟨_, rfl, rfl⟩, hS, fun _ _ => rfl⟩
    | 1, _ => exact stepC rfl rfl (execCall1 Try.func9 (by kernel_rfl) (by kernel_rfl) rfl (hv 0 (by omega) _ rfl _ rfl)) (new_any pf lp _ X (FI.on hS)) fun e w' hh => ⟨_, hh.1, s, ⟨_, rfl, rfl⟩, (hS).trans ((hh.2).mono (hS).size), fun _ _ => rfl⟩
    | 2, _ =>
      refine stepV rfl rfl (execAllTp rfl (fun _ => 0)) ⟨X.heap.size, ⟨_, rfl, rfl⟩, ⟨(hS).trans (((belNew X _)).mono (hS).size), heapNew X _, (hS).size⟩, fun i hi => ?_⟩
      match i, hi with
      | 0, _ => rfl
      | 1, _ => rfl
      | n_ + 2, h_ => omega
    | 3, _ => exact stepS rfl rfl (execStTp rfl (hv 2 (by omega) _ rfl _ rfl) (hv 1 (by omega) _ rfl _ rfl) hS.2.1 rfl) ⟨s, ⟨_, rfl, rfl⟩, ⟨below4 hS.1 hS.2.2 _, hS.2.2, setRow_heap _ _ _ _ _ _ hS.2.1⟩, fun _ _ => rfl⟩
    | k_ + 4, h_ => exact absurd h_ (by simp)
  rintro g11 a X12 h1 h2 h3 h4 hS
  replace hS : Below X11.heap.size X11 X12 ∧ (X11.heap.size ≤ g11) ∧ X12.heap[g11]? = some (.cells (tpC pf lp 0) 25) := hS
  obtain ⟨bX, Fge11, F11⟩ := hS
  replace t3 := (h3 3 (by decide)).trans t3
  replace t4 := (h3 4 (by decide)).trans t4
  replace t6 := (h3 6 (by decide)).trans t6
  replace t39 := (h3 39 (by decide)).trans t39
  replace t40 := (h3 40 (by decide)).trans t40
  replace t41 := (h3 41 (by decide)).trans t41
  replace t10 := (h3 10 (by decide)).trans t10
  have t11 : a.eval (.tmp 11) = .pointer (some ⟨g11, 0, none⟩) := h4 2 _ rfl _ rfl
  replace FT := (FT.on bX)
  replace F6 := (on9 F6 bX)
  replace FP := (FP.on bX)
  replace FO := (ownsRow_below FO bX)
  replace Fgi := Fgi
  replace FI := (FI.on bX)
  have ZX12 := bX.size
  replace BW := BW.trans (bX.mono BW.size)
  clear bX
  replace A := (⟨h1, h2.trans A.2⟩ : a.tmps.size = 270 ∧ a.defers = [])
  clear h1 h2 h3 h4
  refine wp_seq ?_
  refine wp_seq ?_
  refine wp_region_sq (σ := Unit) 270 [(0, 68), (1, 69), (2, 70), (3, 71), (4, 72)] (fun j_ s X => match j_ with | 0 => Below X12.heap.size X12 X | 1 => Below X12.heap.size X12 X | 2 => Below X12.heap.size X12 X | 3 => Below X12.heap.size X12 X | 4 => Below X12.heap.size X12 X | _ => Below X12.heap.size X12 X) (fun s => fun i_ => match i_ with | 0 => .slice (some ⟨gi, 0, none⟩) lp ci | 1 => .pointer (some ⟨g6, 3, none⟩) | 2 => pw | 3 => .bool true | 4 => .bool false | _ => undef) () A.1 (by kernel_rfl) (by decide) (by decide) (Below.refl _ _) ?_ ?_
  · intro i_ hi_ s a X hf hv hn hS
    match i_, hi_ with
    | 0, _ => exact stepV rfl rfl (execMvB rfl ((hf 10 (by decide)).trans t10)) ⟨s, ⟨_, rfl, rfl⟩, hS, fun _ _ => rfl⟩
    | 1, _ => exact stepV rfl rfl (execFldS3 rfl ((hf 6 (by decide)).trans t6)) ⟨s, ⟨_, rfl, rfl⟩, hS, fun _ _ => rfl⟩
    | 2, _ => exact stepV rfl rfl (execLdL rfl (hv 1 (by omega) _ rfl _ rfl) (stC_at (on9 F6 hS)).2.2.2) ⟨s, ⟨_, rfl, rfl⟩, hS, fun _ _ => rfl⟩
    | 3, _ => exact stepC rfl rfl (execCall2 Try.func10 (by kernel_rfl) (by kernel_rfl) rfl (hv 0 (by omega) _ rfl _ rfl) (hv 2 (by omega) _ rfl _ rfl)) (same_true _ _ (lp) _ _ X (FI.on hS) (FP.on hS) (by intro j hj; rfl)) fun e w' hh => ⟨_, hh.1, s, ⟨_, rfl, rfl⟩, by rw [hh.2]; exact hS, fun _ _ => rfl⟩
    | 4, _ => exact stepV rfl rfl (execNot8 rfl (hv 3 (by omega) _ rfl _ rfl)) ⟨s, ⟨_, rfl, rfl⟩, hS, fun _ _ => rfl⟩
    | k_ + 5, h_ => exact absurd h_ (by simp)
  rintro _ a X13 h1 h2 h3 h4 hS
  replace hS : Below X12.heap.size X12 X13 := hS
  have bX := hS
  clear hS
  replace t3 := (h3 3 (by decide)).trans t3
  replace t4 := (h3 4 (by decide)).trans t4
  replace t6 := (h3 6 (by decide)).trans t6
  replace t39 := (h3 39 (by decide)).trans t39
  replace t40 := (h3 40 (by decide)).trans t40
  replace t41 := (h3 41 (by decide)).trans t41
  replace t10 := (h3 10 (by decide)).trans t10
  replace t11 := (h3 11 (by decide)).trans t11
  have t72 : a.eval (.tmp 72) = .bool false := h4 4 _ rfl _ rfl
  replace FT := (FT.on bX)
  replace F6 := (on9 F6 bX)
  replace FP := (FP.on bX)
  replace FO := (ownsRow_below FO bX)
  replace Fgi := Fgi
  replace FI := (FI.on bX)
  replace Fge11 := Fge11
  replace F11 := (on9 F11 bX)
  have ZX13 := bX.size
  replace BW := BW.trans (bX.mono BW.size)
  clear bX
  replace A := (⟨h1, h2.trans A.2⟩ : a.tmps.size = 270 ∧ a.defers = [])
  clear h1 h2 h3 h4
  refine wp_cond_false t72 ?_
  refine wp_skip ?_
  clear t72
  have FB := byr_own FO hpf
  clear FI FP FO Fgi
  refine wp_seq ?_
  refine wp_seq ?_
  refine wp_region_sq (σ := Unit) 270 [(0, 73), (1, 74), (2, 75)] (fun j_ s X => match j_ with | 0 => Below X13.heap.size X13 X | 1 => Below X13.heap.size X13 X | 2 => Below X13.heap.size X13 X | _ => Below X13.heap.size X13 X) (fun s => fun i_ => match i_ with | 0 => .slice (some ⟨gi, 0, none⟩) lp ci | 1 => .int .i64 ((lp : Nat) : Int) | 2 => .int .i64 ((0 : Nat) : Int) | _ => undef) () A.1 (by kernel_rfl) (by decide) (by decide) (Below.refl _ _) ?_ ?_
  · intro i_ hi_ s a X hf hv hn hS
    match i_, hi_ with
    | 0, _ => exact stepV rfl rfl (execMvB rfl ((hf 10 (by decide)).trans t10)) ⟨s, ⟨_, rfl, rfl⟩, hS, fun _ _ => rfl⟩
    | 1, _ => exact stepV rfl rfl (execLenV (len := lp) rfl (hv 0 (by omega) _ rfl _ rfl) ⟨_, _, rfl⟩) ⟨s, ⟨_, rfl, rfl⟩, hS, fun _ _ => rfl⟩
    | 2, _ => exact stepV rfl rfl (execMvB rfl rfl) ⟨s, ⟨_, rfl, rfl⟩, hS, fun _ _ => rfl⟩
    | k_ + 3, h_ => exact absurd h_ (by simp)
  rintro _ a X15 h1 h2 h3 h4 hS
  replace hS : Below X13.heap.size X13 X15 := hS
  have bX := hS
  clear hS
  replace t3 := (h3 3 (by decide)).trans t3
  replace t4 := (h3 4 (by decide)).trans t4
  replace t6 := (h3 6 (by decide)).trans t6
  replace t39 := (h3 39 (by decide)).trans t39
  replace t40 := (h3 40 (by decide)).trans t40
  replace t41 := (h3 41 (by decide)).trans t41
  replace t10 := (h3 10 (by decide)).trans t10
  replace t11 := (h3 11 (by decide)).trans t11
  have t74 : a.eval (.tmp 74) = .int .i64 ((lp : Nat) : Int) := h4 1 _ rfl _ rfl
  have t75 : a.eval (.tmp 75) = .int .i64 ((0 : Nat) : Int) := h4 2 _ rfl _ rfl
  replace FT := (FT.on bX)
  replace F6 := (on9 F6 bX)
  replace Fge11 := Fge11
  replace F11 := (on9 F11 bX)
  replace FB := (FB.on bX)
  have ZX15 := bX.size
  replace BW := BW.trans (bX.mono BW.size)
  clear bX
  replace A := (⟨h1, h2.trans A.2⟩ : a.tmps.size = 270 ∧ a.defers = [])
  clear h1 h2 h3 h4
  have FB0 := FB
  have FXs : Saved (fun k => k = gi) X15 X15 := Saved.refl _ _
  have BB := BW
  refine wp_block ?_
  refine wp_loop (fun a W => ∃ (ix : Nat), ix ≤ lp ∧ ((a.tmps.size = 270 ∧ a.defers = []) ∧ a.eval (.tmp 3) = tv ∧ a.eval (.tmp 4) = bv ∧ a.eval (.tmp 6) = .pointer (some ⟨g6, 0, none⟩) ∧ a.eval (.tmp 39) = sc ∧ a.eval (.tmp 40) = .int .i64 ((n : Nat) : Int) ∧ a.eval (.tmp 41) = .int .i64 ((i : Nat) : Int) ∧ a.eval (.tmp 10) = .slice (some ⟨gi, 0, none⟩) lp ci ∧ a.eval (.tmp 11) = .pointer (some ⟨g11, 0, none⟩) ∧ a.eval (.tmp 74) = .int .i64 ((lp : Nat) : Int) ∧ a.eval (.tmp 75) = .int .i64 ((ix : Nat) : Int) ∧ Below V.heap.size V W ∧ ByR W gi ci (lp) ∧ Saved (fun k => k = gi) X15 W)) (fun a _ => lp - (intOf (a.eval (.tmp 75))).toNat) ⟨0, Nat.zero_le _, A, t3, t4, t6, t39, t40, t41, t10, t11, t74, t75, BB, FB, FXs⟩ ?_
  clear A t3 t4 t6 t39 t40 t41 t10 t11 t74 t75 BB FB FXs a
  rintro a XL ⟨ix, hix, A, t3, t4, t6, t39, t40, t41, t10, t11, t74, t75, BB, FB, FXs⟩
  have e75 := t75
  refine wp_seq ?_
  refine wp_region_sq (σ := Unit) 270 [(0, 76)] (fun j_ s X => match j_ with | 0 => Below V.heap.size V X ∧ (ByR X gi ci (lp)) ∧ (Saved (fun k => k = gi) X15 X) | _ => Below V.heap.size V X ∧ (ByR X gi ci (lp)) ∧ (Saved (fun k => k = gi) X15 X)) (fun s => fun i_ => match i_ with | 0 => .bool (decide (ix < lp)) | _ => undef) () A.1 (by kernel_rfl) (by decide) (by decide) ⟨BB, FB, FXs⟩ ?_ ?_
  · intro i_ hi_ s a X hf hv hn hS
    match i_, hi_ with
    | 0, _ => exact stepV rfl rfl (execLtW (p := ix) (q := lp) rfl ((hf 75 (by decide)).trans t75) ((hf 74 (by decide)).trans t74)) ⟨s, ⟨_, rfl, rfl⟩, hS, fun _ _ => rfl⟩
    | k_ + 1, h_ => exact absurd h_ (by simp)
  rintro _ a X16 h1 h2 h3 h4 hS
  clear BB
  clear FB
  clear FXs
  replace hS : Below V.heap.size V X16 ∧ (ByR X16 gi ci (lp)) ∧ (Saved (fun k => k = gi) X15 X16) := hS
  obtain ⟨BB, FB, FXs⟩ := hS
  replace t3 := (h3 3 (by decide)).trans t3
  replace t4 := (h3 4 (by decide)).trans t4
  replace t6 := (h3 6 (by decide)).trans t6
  replace t39 := (h3 39 (by decide)).trans t39
  replace t40 := (h3 40 (by decide)).trans t40
  replace t41 := (h3 41 (by decide)).trans t41
  replace t10 := (h3 10 (by decide)).trans t10
  replace t11 := (h3 11 (by decide)).trans t11
  replace t74 := (h3 74 (by decide)).trans t74
  replace t75 := (h3 75 (by decide)).trans t75
  have t76 : a.eval (.tmp 76) = .bool (decide (ix < lp)) := h4 0 _ rfl _ rfl
  replace A := (⟨h1, h2.trans A.2⟩ : a.tmps.size = 270 ∧ a.defers = [])
  clear h1 h2 h3 h4
  refine wp_seq ?_
  by_cases hlt : ix < lp
  · rw [decide_eq_true hlt] at t76
    refine wp_cond_true t76 ?_
    refine wp_skip ?_
    clear t76
    refine wp_seq ?_
    refine wp_block ?_
    refine wp_seq ?_
    refine wp_region_sq (σ := Unit) 270 [(0, 77), (1, 12)] (fun j_ s X => match j_ with | 0 => Below V.heap.size V X ∧ (ByR X gi ci (lp)) ∧ (Saved (fun k => k = gi) X15 X) | 1 => Below V.heap.size V X ∧ (ByR X gi ci (lp)) ∧ (Saved (fun k => k = gi) X15 X) | _ => Below V.heap.size V X ∧ (ByR X gi ci (lp)) ∧ (Saved (fun k => k = gi) X15 X)) (fun s => fun i_ => match i_ with | 0 => .int .i64 ((ix : Nat) : Int) | 1 => .int .i64 ((ix : Nat) : Int) | _ => undef) () A.1 (by kernel_rfl) (by decide) (by decide) ⟨BB, FB, FXs⟩ ?_ ?_
    · intro i_ hi_ s a X hf hv hn hS
      match i_, hi_ with
      | 0, _ => exact stepV rfl rfl (execMvB rfl ((hf 75 (by decide)).trans t75)) ⟨s, ⟨_, rfl, rfl⟩, hS, fun _ _ => rfl⟩
      | 1, _ => exact stepV rfl rfl (execAsgB rfl (hv 0 (by omega) _ rfl _ rfl)) ⟨s, ⟨_, rfl, rfl⟩, hS, fun _ _ => rfl⟩
      | k_ + 2, h_ => exact absurd h_ (by simp)
    rintro _ a X17 h1 h2 h3 h4 hS
    clear BB
    clear FB
    clear FXs
    replace hS : Below V.heap.size V X17 ∧ (ByR X17 gi ci (lp)) ∧ (Saved (fun k => k = gi) X15 X17) := hS
    obtain ⟨BB, FB, FXs⟩ := hS
    replace t3 := (h3 3 (by decide)).trans t3
    replace t4 := (h3 4 (by decide)).trans t4
    replace t6 := (h3 6 (by decide)).trans t6
    replace t39 := (h3 39 (by decide)).trans t39
    replace t40 := (h3 40 (by decide)).trans t40
    replace t41 := (h3 41 (by decide)).trans t41
    replace t10 := (h3 10 (by decide)).trans t10
    replace t11 := (h3 11 (by decide)).trans t11
    replace t74 := (h3 74 (by decide)).trans t74
    replace t75 := (h3 75 (by decide)).trans t75
    have t12 : a.eval (.tmp 12) = .int .i64 ((ix : Nat) : Int) := h4 1 _ rfl _ rfl
    replace A := (⟨h1, h2.trans A.2⟩ : a.tmps.size = 270 ∧ a.defers = [])
    clear h1 h2 h3 h4
    refine wp_region_sq (σ := Nat) 270 [(0, 78), (1, 79), (2, 80), (3, 81), (4, 82), (5, 83)] (fun j_ s X => match j_ with | 0 => Below V.heap.size V X ∧ (ByR X gi ci (lp)) ∧ (Saved (fun k => k = gi) X15 X) | 1 => Below V.heap.size V X ∧ (ByR X gi ci (lp)) ∧ (Saved (fun k => k = gi) X15 X) | 2 => Below V.heap.size V X ∧ (ByR X gi ci (lp)) ∧ (Saved (fun k => k = gi) X15 X) | 3 => Below V.heap.size V X ∧ (ByR X gi ci (lp)) ∧ (Saved (fun k => k = gi) X15 X) | 4 => Below V.heap.size V X ∧ (ByR X gi ci (lp)) ∧ (Saved (fun k => k = gi) X15 X) ∧ (s < 256) | 5 => Below V.heap.size V X ∧ (ByR X gi ci (lp)) ∧ (Saved (fun k => k = gi) X15 X) ∧ (s < 256) | 6 => Below V.heap.size V X ∧ (ByR X gi ci (lp)) ∧ (Saved (fun k => k = gi) X15 X) ∧ (s < 256) | _ => Below V.heap.size V X ∧ (ByR X gi ci (lp)) ∧ (Saved (fun k => k = gi) X15 X)) (fun s => fun i_ => match i_ with | 0 => .slice (some ⟨gi, 0, none⟩) lp ci | 1 => .int .i64 ((ix : Nat) : Int) | 2 => .pointer (some ⟨gi, ix, none⟩) | 3 => .int .u8 ((s : Nat) : Int) | 4 => .int .u8 ((s ^^^ 255 : Nat) : Int) | 5 => .pointer (some ⟨gi, ix, none⟩) | 6 => undef | _ => undef) 0 A.1 (by kernel_rfl) (by decide) (by decide) ⟨BB, FB, FXs⟩ ?_ ?_
    · intro i_ hi_ s a X hf hv hn hS
      match i_, hi_ with
      | 0, _ => exact stepV rfl rfl (execMvB rfl ((hf 10 (by decide)).trans t10)) ⟨s, ⟨_, rfl, rfl⟩, hS, fun _ _ => rfl⟩
      | 1, _ => exact stepV rfl rfl (execMvB rfl ((hf 12 (by decide)).trans t12)) ⟨s, ⟨_, rfl, rfl⟩, hS, fun _ _ => rfl⟩
      | 2, _ => exact stepV rfl rfl (execIdxS0 (k := ix) rfl (hv 0 (by omega) _ rfl _ rfl) (hv 1 (by omega) _ rfl _ rfl) hlt) ⟨s, ⟨_, rfl, rfl⟩, hS, fun _ _ => rfl⟩
      | 3, _ =>
        obtain ⟨z_, hz_, hc_, hf_⟩ := hS.2.1.cell hlt
        refine stepV rfl rfl (execLdB rfl (hv 2 (by omega) _ rfl _ rfl) hc_) ⟨z_, ⟨_, rfl, rfl⟩, ⟨hS.1, hS.2.1, hS.2.2, hz_⟩, fun i hi => ?_⟩
        match i, hi with
        | 0, _ => rfl
        | 1, _ => rfl
        | 2, _ => rfl
        | n_ + 3, h_ => omega
      | 4, _ => exact stepV rfl rfl (execXor5 rfl (hv 3 (by omega) _ rfl _ rfl) rfl hS.2.2.2 (by decide)) ⟨s, ⟨_, rfl, rfl⟩, hS, fun _ _ => rfl⟩
      | 5, _ => exact stepV rfl rfl (execIdxS0 (k := ix) rfl (hv 0 (by omega) _ rfl _ rfl) (hv 1 (by omega) _ rfl _ rfl) hlt) ⟨s, ⟨_, rfl, rfl⟩, hS, fun _ _ => rfl⟩
      | 6, _ =>
        obtain ⟨z_, hz_, hc_, hf_⟩ := hS.2.1.cell hlt
        refine stepS rfl rfl (execStB9 rfl (hv 5 (by omega) _ rfl _ rfl) (hv 4 (by omega) _ rfl _ rfl) hc_ hf_) ⟨s, ⟨_, rfl, rfl⟩, ⟨(hS.1).setCell hgi _, hS.2.1.set _ (Nat.xor_lt_two_pow (n := 8) hS.2.2.2 (by decide)), hS.2.2.1.cell _ (Or.inr rfl)⟩, fun i hi => ?_⟩
        match i, hi with
        | 0, _ => rfl
        | 1, _ => rfl
        | 2, _ => rfl
        | 3, _ => rfl
        | 4, _ => rfl
        | 5, _ => rfl
        | n_ + 6, h_ => omega
      | k_ + 7, h_ => exact absurd h_ (by simp)
    rintro z a X18 h1 h2 h3 h4 hS
    clear BB
    clear FB
    clear FXs
    replace hS : Below V.heap.size V X18 ∧ (ByR X18 gi ci (lp)) ∧ (Saved (fun k => k = gi) X15 X18) := hS
    obtain ⟨BB, FB2, FS2⟩ := hS
    replace t3 := (h3 3 (by decide)).trans t3
    replace t4 := (h3 4 (by decide)).trans t4
    replace t6 := (h3 6 (by decide)).trans t6
    replace t39 := (h3 39 (by decide)).trans t39
    replace t40 := (h3 40 (by decide)).trans t40
    replace t41 := (h3 41 (by decide)).trans t41
    replace t10 := (h3 10 (by decide)).trans t10
    replace t11 := (h3 11 (by decide)).trans t11
    replace t74 := (h3 74 (by decide)).trans t74
    replace t75 := (h3 75 (by decide)).trans t75
    replace A := (⟨h1, h2.trans A.2⟩ : a.tmps.size = 270 ∧ a.defers = [])
    clear h1 h2 h3 h4
    clear t12
    refine wp_region_sq (σ := Unit) 270 [(0, 84), (1, 75)] (fun j_ s X => match j_ with | 0 => Below V.heap.size V X ∧ (ByR X gi ci (lp)) ∧ (Saved (fun k => k = gi) X15 X) | 1 => Below V.heap.size V X ∧ (ByR X gi ci (lp)) ∧ (Saved (fun k => k = gi) X15 X) | _ => Below V.heap.size V X ∧ (ByR X gi ci (lp)) ∧ (Saved (fun k => k = gi) X15 X)) (fun s => fun i_ => match i_ with | 0 => .int .i64 ((ix + 1 : Nat) : Int) | 1 => .int .i64 ((ix + 1 : Nat) : Int) | _ => undef) () A.1 (by kernel_rfl) (by decide) (by decide) ⟨BB, FB2, FS2⟩ ?_ ?_
    · intro i_ hi_ s a X hf hv hn hS
      match i_, hi_ with
      | 0, _ => exact stepV rfl rfl (execAd8 (p := ix) (q := 1) rfl ((hn 1 (by omega) _ rfl _ rfl).trans t75) rfl (by omega)) ⟨s, ⟨_, rfl, rfl⟩, hS, fun _ _ => rfl⟩
      | 1, _ => exact stepV rfl rfl (execMvB rfl (hv 0 (by omega) _ rfl _ rfl)) ⟨s, ⟨_, rfl, rfl⟩, hS, fun _ _ => rfl⟩
      | k_ + 2, h_ => exact absurd h_ (by simp)
    rintro _ a X19 h1 h2 h3 h4 hS
    clear BB
    clear FB2
    clear FS2
    replace hS : Below V.heap.size V X19 ∧ (ByR X19 gi ci (lp)) ∧ (Saved (fun k => k = gi) X15 X19) := hS
    obtain ⟨BB, FB2, FS2⟩ := hS
    replace t3 := (h3 3 (by decide)).trans t3
    replace t4 := (h3 4 (by decide)).trans t4
    replace t6 := (h3 6 (by decide)).trans t6
    replace t39 := (h3 39 (by decide)).trans t39
    replace t40 := (h3 40 (by decide)).trans t40
    replace t41 := (h3 41 (by decide)).trans t41
    replace t10 := (h3 10 (by decide)).trans t10
    replace t11 := (h3 11 (by decide)).trans t11
    replace t74 := (h3 74 (by decide)).trans t74
    replace t75 : a.eval (.tmp 75) = .int .i64 ((ix + 1 : Nat) : Int) := h4 1 _ rfl _ rfl
    replace A := (⟨h1, h2.trans A.2⟩ : a.tmps.size = 270 ∧ a.defers = [])
    clear h1 h2 h3 h4
    exact ⟨⟨ix + 1, hlt, A, t3, t4, t6, t39, t40, t41, t10, t11, t74, t75, BB, FB2, FS2⟩, by show lp - (intOf (a.eval (.tmp 75))).toNat < lp - (intOf (Act.eval _ (.tmp 75))).toNat; rw [t75, e75]; show lp - (ix + 1) < lp - ix; omega⟩
  · rw [decide_eq_false hlt] at t76
    refine wp_cond_false t76 ?_
    refine wp_exit ?_
    first | refine exit_in ?_ | refine exit_then (exit_in ?_) | refine exit_then (exit_then (exit_in ?_))
    clear t76 t74 t75 e75
    obtain ⟨cI, zI, hI, _⟩ := id FB0
    replace FT := FT.saved FXs (fun _ q => q) hI
    replace F6 := heap_saved F6 FXs (fun q => ne_tyM F6 hI (by decide) q)
    replace F11 := heap_saved F11 FXs (fun q => ne_tyM F11 hI (by decide) q)
    clear FXs hI FB0
    replace BW := BB
    clear BB
    clear t10
    have FT0 := FT
    have BB := BW
    have FTa := FT.tap
    have FBo := FT.boo
    refine wp_region_stB (σ := Nat × Value × Nat × Value) 270 [(0, 85), (1, 86), (2, 87), (3, 88), (4, 89), (5, 90), (6, 91), (7, 92), (8, 93), (9, 94), (10, 3), (11, 4)] (fun l_ s X => Below V.heap.size V X ∧ (l_ 3 = false → (X.ownsRow V.heap.size 25 2 tv m (pairL (fun t => .string (strN (P t) (Ln t))) (fun t => .int .i64 (At t : Int)) m))) ∧ (l_ 9 = false → (X.ownsRow V.heap.size 29 2 bv m (pairL pvs (fun t => .int .i64 (At t : Int)) m))) ∧ (X.heap[g6]? = some (.cells (stC kd tt nn pw) 32)) ∧ (l_ 3 = false → X.heap[g11]? = some (.cells (tpC pf lp 0) 25)) ∧ (l_ 2 = true → l_ 3 = false → (X.heap[s.1]? = some (.cells (tpC pf lp 0) 25))) ∧ (l_ 2 = true → (V.heap.size ≤ s.1)) ∧ (l_ 3 = true → (X.ownsRow V.heap.size 25 2 s.2.1 (m + 1) ((pairL (fun t => .string (strN (P t) (Ln t))) (fun t => .int .i64 (At t : Int)) m) ++ [.string (strN pf lp), .int .i64 ((0 : Nat) : Int)]))) ∧ (l_ 8 = true → l_ 9 = false → (X.heap[s.2.2.1]? = some (.cells (bkC pw 0) 29))) ∧ (l_ 8 = true → (V.heap.size ≤ s.2.2.1)) ∧ (l_ 9 = true → (X.ownsRow V.heap.size 29 2 s.2.2.2 (m + 1) ((pairL pvs (fun t => .int .i64 (At t : Int)) m) ++ [pw, .int .i64 ((0 : Nat) : Int)])))) (fun s => fun i_ => match i_ with | 0 => tv | 1 => .agg (tpC pf lp 0) | 2 => .slice (some ⟨s.1, 0, none⟩) 1 1 | 3 => s.2.1 | 4 => bv | 5 => .pointer (some ⟨g6, 3, none⟩) | 6 => pw | 7 => .agg (bkC pw 0) | 8 => .slice (some ⟨s.2.2.1, 0, none⟩) 1 1 | 9 => s.2.2.2 | 10 => s.2.1 | 11 => s.2.2.2 | _ => undef) (0, undef, 0, undef) (by kernel_rfl) (by kernel_rfl) A.1 (by kernel_rfl) (by decide) (by decide) ⟨(BB.drew), (fun _ => (ownsLL_below FTa (Below.refl _ _).drew)), (fun _ => (ownsLL_below FBo (Below.refl _ _).drew)), ((on9 F6 (Below.refl _ _).drew)), (fun _ => (on9 F11 (Below.refl _ _).drew)), (fun q0_ q1_ => by cases q0_), (fun q0_ => by cases q0_), (fun q0_ => by cases q0_), (fun q0_ q1_ => by cases q0_), (fun q0_ => by cases q0_), (fun q0_ => by cases q0_)⟩ ?_ ?_
    · intro i_ hi_ l_ s a X hl_ hf hdep hl2 hcl hno hT
      have up : ∀ j x, x ≠ j → updB l_ j x = l_ x := fun j x hj => by unfold updB; simp [hj]
      match i_, hi_ with
      | 0, _ => exact stepV rfl rfl (execMvB rfl ((hno 10 _ rfl _ rfl (by cases hq_ : l_ 10 with | false => rfl | true => exact absurd (hl_.symm.trans (hcl 10 _ rfl hq_ 0 rfl)) (by decide))).trans t3)) ⟨s, ⟨_, rfl, rfl⟩, ⟨hT.1, (fun q0_ => (hT.2.1 (by rw [up 0 3 (by decide)] at q0_; exact q0_))), (fun q0_ => (hT.2.2.1 (by rw [up 0 9 (by decide)] at q0_; exact q0_))), (hT.2.2.2.1), (fun q0_ => (hT.2.2.2.2.1 (by rw [up 0 3 (by decide)] at q0_; exact q0_))), (fun q0_ q1_ => (hT.2.2.2.2.2.1 (by rw [up 0 2 (by decide)] at q0_; exact q0_) (by rw [up 0 3 (by decide)] at q1_; exact q1_))), (fun q0_ => (hT.2.2.2.2.2.2.1 (by rw [up 0 2 (by decide)] at q0_; exact q0_))), (fun q0_ => absurd (hl_.symm.trans (hcl 3 _ rfl ((up 0 3 (by decide)).symm.trans q0_) 0 rfl)) (by decide)), (fun q0_ q1_ => (hT.2.2.2.2.2.2.2.2.1 (by rw [up 0 8 (by decide)] at q0_; exact q0_) (by rw [up 0 9 (by decide)] at q1_; exact q1_))), (fun q0_ => (hT.2.2.2.2.2.2.2.2.2.1 (by rw [up 0 8 (by decide)] at q0_; exact q0_))), (fun q0_ => absurd (hl_.symm.trans (hcl 3 _ rfl (hcl 9 _ rfl ((up 0 9 (by decide)).symm.trans q0_) 3 rfl) 0 rfl)) (by decide))⟩, fun _ _ _ => rfl⟩
      | 1, _ => exact stepV rfl rfl (execLdTp rfl ((hf 11 (by decide)).trans t11) (hT.2.2.2.2.1 (by cases hq_ : l_ 3 with | false => rfl | true => exact absurd (hl_.symm.trans (hcl 2 _ rfl (hcl 3 _ rfl hq_ 2 rfl) 1 rfl)) (by decide)))) ⟨s, ⟨_, rfl, rfl⟩, ⟨hT.1, (fun q0_ => (hT.2.1 (by rw [up 1 3 (by decide)] at q0_; exact q0_))), (fun q0_ => (hT.2.2.1 (by rw [up 1 9 (by decide)] at q0_; exact q0_))), (hT.2.2.2.1), (fun q0_ => (hT.2.2.2.2.1 (by rw [up 1 3 (by decide)] at q0_; exact q0_))), (fun q0_ q1_ => absurd (hl_.symm.trans (hcl 2 _ rfl ((up 1 2 (by decide)).symm.trans q0_) 1 rfl)) (by decide)), (fun q0_ => absurd (hl_.symm.trans (hcl 2 _ rfl ((up 1 2 (by decide)).symm.trans q0_) 1 rfl)) (by decide)), (fun q0_ => absurd (hl_.symm.trans (hcl 2 _ rfl (hcl 3 _ rfl ((up 1 3 (by decide)).symm.trans q0_) 2 rfl) 1 rfl)) (by decide)), (fun q0_ q1_ => (hT.2.2.2.2.2.2.2.2.1 (by rw [up 1 8 (by decide)] at q0_; exact q0_) (by rw [up 1 9 (by decide)] at q1_; exact q1_))), (fun q0_ => (hT.2.2.2.2.2.2.2.2.2.1 (by rw [up 1 8 (by decide)] at q0_; exact q0_))), (fun q0_ => absurd (hl_.symm.trans (hcl 2 _ rfl (hcl 3 _ rfl (hcl 9 _ rfl ((up 1 9 (by decide)).symm.trans q0_) 3 rfl) 2 rfl) 1 rfl)) (by decide))⟩, fun _ _ _ => rfl⟩
      | 2, _ =>
        refine stepV rfl rfl (execBsT rfl (hdep _ rfl 1 rfl _ rfl _ rfl)) ⟨(X.heap.size, s.2.1, s.2.2.1, s.2.2.2), ⟨_, rfl, rfl⟩, ⟨hT.1.trans (((belNew X _)).mono hT.1.size), (fun q0_ => (ownsLL_below (hT.2.1 (by rw [up 2 3 (by decide)] at q0_; exact q0_)) (belNew X _))), (fun q0_ => (ownsLL_below (hT.2.2.1 (by rw [up 2 9 (by decide)] at q0_; exact q0_)) (belNew X _))), ((on9 hT.2.2.2.1 (belNew X _))), (fun q0_ => (on9 (hT.2.2.2.2.1 (by rw [up 2 3 (by decide)] at q0_; exact q0_)) (belNew X _))), (fun _q0_ _q1_ => heapNew X _), (fun _q0_ => (hT.1).size), (fun q0_ => absurd (hl_.symm.trans (hcl 3 _ rfl ((up 2 3 (by decide)).symm.trans q0_) 2 rfl)) (by decide)), (fun q0_ q1_ => (on9 (hT.2.2.2.2.2.2.2.2.1 (by rw [up 2 8 (by decide)] at q0_; exact q0_) (by rw [up 2 9 (by decide)] at q1_; exact q1_)) (belNew X _))), (fun q0_ => (hT.2.2.2.2.2.2.2.2.2.1 (by rw [up 2 8 (by decide)] at q0_; exact q0_))), (fun q0_ => absurd (hl_.symm.trans (hcl 3 _ rfl (hcl 9 _ rfl ((up 2 9 (by decide)).symm.trans q0_) 3 rfl) 2 rfl)) (by decide))⟩, fun i hi hli => ?_⟩
        match i, hi with
        | 0, _ => rfl
        | 1, _ => rfl
        | 2, _ => exact absurd (hl_.symm.trans hli) (by decide)
        | 3, _ => rfl
        | 4, _ => rfl
        | 5, _ => rfl
        | 6, _ => rfl
        | 7, _ => rfl
        | 8, _ => rfl
        | 9, _ => rfl
        | 10, _ => rfl
        | 11, _ => rfl
        | k_ + 12, h_ => exact absurd h_ (by simp)
      | 3, _ =>
        refine stepAppT rfl rfl rfl (hdep _ rfl 0 rfl _ rfl _ rfl) (hdep _ rfl 2 rfl _ rfl _ rfl) (hT.2.1 hl_) (hT.2.2.2.2.2.1 (hl2 _ rfl 2 rfl) hl_) hm (hT.1).size fun v' W' own' gr => ⟨(s.1, v', s.2.2.1, s.2.2.2), ⟨_, rfl, rfl⟩, ⟨(hT.1).grown gr (hT.1).size (fun k hk => ((hT.2.1 hl_).lt k hk).1), (fun q0_ => absurd q0_ (by unfold updB; simp)), (fun q0_ => own_overT (hT.2.2.1 (by rw [up 3 9 (by decide)] at q0_; exact q0_)) (hT.2.1 hl_) gr (by decide)), (heap_overL (hT.2.1 hl_) gr hT.2.2.2.1 (by decide)), (fun q0_ => absurd q0_ (by unfold updB; simp)), (fun q0_ q1_ => absurd q1_ (by unfold updB; simp)), (fun q0_ => (hT.2.2.2.2.2.2.1 (by rw [up 3 2 (by decide)] at q0_; exact q0_))), (fun _q0_ => own'), (fun q0_ q1_ => heap_overL (hT.2.1 hl_) gr (hT.2.2.2.2.2.2.2.2.1 (by rw [up 3 8 (by decide)] at q0_; exact q0_) (by rw [up 3 9 (by decide)] at q1_; exact q1_)) (by decide)), (fun q0_ => (hT.2.2.2.2.2.2.2.2.2.1 (by rw [up 3 8 (by decide)] at q0_; exact q0_))), (fun q0_ => absurd (hl_.symm.trans (hcl 9 _ rfl ((up 3 9 (by decide)).symm.trans q0_) 3 rfl)) (by decide))⟩, fun i hi hli => ?_⟩
        match i, hi with
        | 0, _ => rfl
        | 1, _ => rfl
        | 2, _ => rfl
        | 3, _ => exact absurd (hl_.symm.trans hli) (by decide)
        | 4, _ => rfl
        | 5, _ => rfl
        | 6, _ => rfl
        | 7, _ => rfl
        | 8, _ => rfl
        | 9, _ => rfl
        | 10, _ => exact absurd (hl_.symm.trans (hcl 10 _ rfl hli 3 rfl)) (by decide)
        | 11, _ => rfl
        | k_ + 12, h_ => exact absurd h_ (by simp)
      | 4, _ => exact stepV rfl rfl (execMvB rfl ((hno 11 _ rfl _ rfl (by cases hq_ : l_ 11 with | false => rfl | true => exact absurd (hl_.symm.trans (hcl 11 _ rfl hq_ 4 rfl)) (by decide))).trans t4)) ⟨s, ⟨_, rfl, rfl⟩, ⟨hT.1, (fun q0_ => (hT.2.1 (by rw [up 4 3 (by decide)] at q0_; exact q0_))), (fun q0_ => (hT.2.2.1 (by rw [up 4 9 (by decide)] at q0_; exact q0_))), (hT.2.2.2.1), (fun q0_ => (hT.2.2.2.2.1 (by rw [up 4 3 (by decide)] at q0_; exact q0_))), (fun q0_ q1_ => (hT.2.2.2.2.2.1 (by rw [up 4 2 (by decide)] at q0_; exact q0_) (by rw [up 4 3 (by decide)] at q1_; exact q1_))), (fun q0_ => (hT.2.2.2.2.2.2.1 (by rw [up 4 2 (by decide)] at q0_; exact q0_))), (fun q0_ => (hT.2.2.2.2.2.2.2.1 (by rw [up 4 3 (by decide)] at q0_; exact q0_))), (fun q0_ q1_ => (hT.2.2.2.2.2.2.2.2.1 (by rw [up 4 8 (by decide)] at q0_; exact q0_) (by rw [up 4 9 (by decide)] at q1_; exact q1_))), (fun q0_ => (hT.2.2.2.2.2.2.2.2.2.1 (by rw [up 4 8 (by decide)] at q0_; exact q0_))), (fun q0_ => absurd (hl_.symm.trans (hcl 9 _ rfl ((up 4 9 (by decide)).symm.trans q0_) 4 rfl)) (by decide))⟩, fun _ _ _ => rfl⟩
      | 5, _ => exact stepV rfl rfl (execFldS3 rfl ((hf 6 (by decide)).trans t6)) ⟨s, ⟨_, rfl, rfl⟩, ⟨hT.1, (fun q0_ => (hT.2.1 (by rw [up 5 3 (by decide)] at q0_; exact q0_))), (fun q0_ => (hT.2.2.1 (by rw [up 5 9 (by decide)] at q0_; exact q0_))), (hT.2.2.2.1), (fun q0_ => (hT.2.2.2.2.1 (by rw [up 5 3 (by decide)] at q0_; exact q0_))), (fun q0_ q1_ => (hT.2.2.2.2.2.1 (by rw [up 5 2 (by decide)] at q0_; exact q0_) (by rw [up 5 3 (by decide)] at q1_; exact q1_))), (fun q0_ => (hT.2.2.2.2.2.2.1 (by rw [up 5 2 (by decide)] at q0_; exact q0_))), (fun q0_ => (hT.2.2.2.2.2.2.2.1 (by rw [up 5 3 (by decide)] at q0_; exact q0_))), (fun q0_ q1_ => absurd (hl_.symm.trans (hcl 6 _ rfl (hcl 7 _ rfl (hcl 8 _ rfl ((up 5 8 (by decide)).symm.trans q0_) 7 rfl) 6 rfl) 5 rfl)) (by decide)), (fun q0_ => absurd (hl_.symm.trans (hcl 6 _ rfl (hcl 7 _ rfl (hcl 8 _ rfl ((up 5 8 (by decide)).symm.trans q0_) 7 rfl) 6 rfl) 5 rfl)) (by decide)), (fun q0_ => absurd (hl_.symm.trans (hcl 6 _ rfl (hcl 7 _ rfl (hcl 8 _ rfl (hcl 9 _ rfl ((up 5 9 (by decide)).symm.trans q0_) 8 rfl) 7 rfl) 6 rfl) 5 rfl)) (by decide))⟩, fun _ _ _ => rfl⟩
      | 6, _ => exact stepV rfl rfl (execLdL rfl (hdep _ rfl 5 rfl _ rfl _ rfl) (stC_at hT.2.2.2.1).2.2.2) ⟨s, ⟨_, rfl, rfl⟩, ⟨hT.1, (fun q0_ => (hT.2.1 (by rw [up 6 3 (by decide)] at q0_; exact q0_))), (fun q0_ => (hT.2.2.1 (by rw [up 6 9 (by decide)] at q0_; exact q0_))), (hT.2.2.2.1), (fun q0_ => (hT.2.2.2.2.1 (by rw [up 6 3 (by decide)] at q0_; exact q0_))), (fun q0_ q1_ => (hT.2.2.2.2.2.1 (by rw [up 6 2 (by decide)] at q0_; exact q0_) (by rw [up 6 3 (by decide)] at q1_; exact q1_))), (fun q0_ => (hT.2.2.2.2.2.2.1 (by rw [up 6 2 (by decide)] at q0_; exact q0_))), (fun q0_ => (hT.2.2.2.2.2.2.2.1 (by rw [up 6 3 (by decide)] at q0_; exact q0_))), (fun q0_ q1_ => absurd (hl_.symm.trans (hcl 7 _ rfl (hcl 8 _ rfl ((up 6 8 (by decide)).symm.trans q0_) 7 rfl) 6 rfl)) (by decide)), (fun q0_ => absurd (hl_.symm.trans (hcl 7 _ rfl (hcl 8 _ rfl ((up 6 8 (by decide)).symm.trans q0_) 7 rfl) 6 rfl)) (by decide)), (fun q0_ => absurd (hl_.symm.trans (hcl 7 _ rfl (hcl 8 _ rfl (hcl 9 _ rfl ((up 6 9 (by decide)).symm.trans q0_) 8 rfl) 7 rfl) 6 rfl)) (by decide))⟩, fun _ _ _ => rfl⟩
      | 7, _ => exact stepV rfl rfl (execBldK1 rfl (hdep _ rfl 6 rfl _ rfl _ rfl) spw) ⟨s, ⟨_, rfl, rfl⟩, ⟨hT.1, (fun q0_ => (hT.2.1 (by rw [up 7 3 (by decide)] at q0_; exact q0_))), (fun q0_ => (hT.2.2.1 (by rw [up 7 9 (by decide)] at q0_; exact q0_))), (hT.2.2.2.1), (fun q0_ => (hT.2.2.2.2.1 (by rw [up 7 3 (by decide)] at q0_; exact q0_))), (fun q0_ q1_ => (hT.2.2.2.2.2.1 (by rw [up 7 2 (by decide)] at q0_; exact q0_) (by rw [up 7 3 (by decide)] at q1_; exact q1_))), (fun q0_ => (hT.2.2.2.2.2.2.1 (by rw [up 7 2 (by decide)] at q0_; exact q0_))), (fun q0_ => (hT.2.2.2.2.2.2.2.1 (by rw [up 7 3 (by decide)] at q0_; exact q0_))), (fun q0_ q1_ => absurd (hl_.symm.trans (hcl 8 _ rfl ((up 7 8 (by decide)).symm.trans q0_) 7 rfl)) (by decide)), (fun q0_ => absurd (hl_.symm.trans (hcl 8 _ rfl ((up 7 8 (by decide)).symm.trans q0_) 7 rfl)) (by decide)), (fun q0_ => absurd (hl_.symm.trans (hcl 8 _ rfl (hcl 9 _ rfl ((up 7 9 (by decide)).symm.trans q0_) 8 rfl) 7 rfl)) (by decide))⟩, fun _ _ _ => rfl⟩
      | 8, _ =>
        refine stepV rfl rfl (execBsK rfl (hdep _ rfl 7 rfl _ rfl _ rfl) spw) ⟨(s.1, s.2.1, X.heap.size, s.2.2.2), ⟨_, rfl, rfl⟩, ⟨hT.1.trans (((belNew X _)).mono hT.1.size), (fun q0_ => (ownsLL_below (hT.2.1 (by rw [up 8 3 (by decide)] at q0_; exact q0_)) (belNew X _))), (fun q0_ => (ownsLL_below (hT.2.2.1 (by rw [up 8 9 (by decide)] at q0_; exact q0_)) (belNew X _))), ((on9 hT.2.2.2.1 (belNew X _))), (fun q0_ => (on9 (hT.2.2.2.2.1 (by rw [up 8 3 (by decide)] at q0_; exact q0_)) (belNew X _))), (fun q0_ q1_ => (on9 (hT.2.2.2.2.2.1 (by rw [up 8 2 (by decide)] at q0_; exact q0_) (by rw [up 8 3 (by decide)] at q1_; exact q1_)) (belNew X _))), (fun q0_ => (hT.2.2.2.2.2.2.1 (by rw [up 8 2 (by decide)] at q0_; exact q0_))), (fun q0_ => (ownsLL_below (hT.2.2.2.2.2.2.2.1 (by rw [up 8 3 (by decide)] at q0_; exact q0_)) (belNew X _))), (fun _q0_ _q1_ => heapNew X _), (fun _q0_ => (hT.1).size), (fun q0_ => absurd (hl_.symm.trans (hcl 9 _ rfl ((up 8 9 (by decide)).symm.trans q0_) 8 rfl)) (by decide))⟩, fun i hi hli => ?_⟩
        match i, hi with
        | 0, _ => rfl
        | 1, _ => rfl
        | 2, _ => rfl
        | 3, _ => rfl
        | 4, _ => rfl
        | 5, _ => rfl
        | 6, _ => rfl
        | 7, _ => rfl
        | 8, _ => exact absurd (hl_.symm.trans hli) (by decide)
        | 9, _ => rfl
        | 10, _ => rfl
        | 11, _ => rfl
        | k_ + 12, h_ => exact absurd h_ (by simp)
      | 9, _ =>
        refine stepAppK rfl rfl rfl (hdep _ rfl 4 rfl _ rfl _ rfl) (hdep _ rfl 8 rfl _ rfl _ rfl) (hT.2.2.1 hl_) (hT.2.2.2.2.2.2.2.2.1 (hl2 _ rfl 8 rfl) hl_) spw hm (hT.1).size fun v' W' own' gr => ⟨(s.1, s.2.1, s.2.2.1, v'), ⟨_, rfl, rfl⟩, ⟨(hT.1).grown gr (hT.1).size (fun k hk => ((hT.2.2.1 hl_).lt k hk).1), (fun q0_ => absurd (q0_.symm.trans ((up 9 3 (by decide)).trans (hl2 _ rfl 3 rfl))) (by decide)), (fun q0_ => absurd q0_ (by unfold updB; simp)), (heap_overL (hT.2.2.1 hl_) gr hT.2.2.2.1 (by decide)), (fun q0_ => absurd (q0_.symm.trans ((up 9 3 (by decide)).trans (hl2 _ rfl 3 rfl))) (by decide)), (fun q0_ q1_ => absurd (q1_.symm.trans ((up 9 3 (by decide)).trans (hl2 _ rfl 3 rfl))) (by decide)), (fun q0_ => (hT.2.2.2.2.2.2.1 (by rw [up 9 2 (by decide)] at q0_; exact q0_))), (fun q0_ => own_overT (hT.2.2.2.2.2.2.2.1 (by rw [up 9 3 (by decide)] at q0_; exact q0_)) (hT.2.2.1 hl_) gr (by decide)), (fun q0_ q1_ => absurd q1_ (by unfold updB; simp)), (fun q0_ => (hT.2.2.2.2.2.2.2.2.2.1 (by rw [up 9 8 (by decide)] at q0_; exact q0_))), (fun _q0_ => own')⟩, fun i hi hli => ?_⟩
        match i, hi with
        | 0, _ => rfl
        | 1, _ => rfl
        | 2, _ => rfl
        | 3, _ => rfl
        | 4, _ => rfl
        | 5, _ => rfl
        | 6, _ => rfl
        | 7, _ => rfl
        | 8, _ => rfl
        | 9, _ => exact absurd (hl_.symm.trans hli) (by decide)
        | 10, _ => rfl
        | 11, _ => exact absurd (hl_.symm.trans (hcl 11 _ rfl hli 9 rfl)) (by decide)
        | k_ + 12, h_ => exact absurd h_ (by simp)
      | 10, _ => exact stepV rfl rfl (execAsgB rfl (hdep _ rfl 3 rfl _ rfl _ rfl)) ⟨s, ⟨_, rfl, rfl⟩, ⟨hT.1, (fun q0_ => absurd (q0_.symm.trans ((up 10 3 (by decide)).trans (hl2 _ rfl 3 rfl))) (by decide)), (fun q0_ => absurd (q0_.symm.trans ((up 10 9 (by decide)).trans (hl2 _ rfl 9 rfl))) (by decide)), (hT.2.2.2.1), (fun q0_ => absurd (q0_.symm.trans ((up 10 3 (by decide)).trans (hl2 _ rfl 3 rfl))) (by decide)), (fun q0_ q1_ => absurd (q1_.symm.trans ((up 10 3 (by decide)).trans (hl2 _ rfl 3 rfl))) (by decide)), (fun q0_ => (hT.2.2.2.2.2.2.1 (by rw [up 10 2 (by decide)] at q0_; exact q0_))), (fun q0_ => (hT.2.2.2.2.2.2.2.1 (by rw [up 10 3 (by decide)] at q0_; exact q0_))), (fun q0_ q1_ => absurd (q1_.symm.trans ((up 10 9 (by decide)).trans (hl2 _ rfl 9 rfl))) (by decide)), (fun q0_ => (hT.2.2.2.2.2.2.2.2.2.1 (by rw [up 10 8 (by decide)] at q0_; exact q0_))), (fun q0_ => (hT.2.2.2.2.2.2.2.2.2.2 (by rw [up 10 9 (by decide)] at q0_; exact q0_)))⟩, fun _ _ _ => rfl⟩
      | 11, _ => exact stepV rfl rfl (execAsgB rfl (hdep _ rfl 9 rfl _ rfl _ rfl)) ⟨s, ⟨_, rfl, rfl⟩, ⟨hT.1, (fun q0_ => absurd (q0_.symm.trans ((up 11 3 (by decide)).trans (hl2 _ rfl 3 rfl))) (by decide)), (fun q0_ => absurd (q0_.symm.trans ((up 11 9 (by decide)).trans (hl2 _ rfl 9 rfl))) (by decide)), (hT.2.2.2.1), (fun q0_ => absurd (q0_.symm.trans ((up 11 3 (by decide)).trans (hl2 _ rfl 3 rfl))) (by decide)), (fun q0_ q1_ => absurd (q1_.symm.trans ((up 11 3 (by decide)).trans (hl2 _ rfl 3 rfl))) (by decide)), (fun q0_ => (hT.2.2.2.2.2.2.1 (by rw [up 11 2 (by decide)] at q0_; exact q0_))), (fun q0_ => (hT.2.2.2.2.2.2.2.1 (by rw [up 11 3 (by decide)] at q0_; exact q0_))), (fun q0_ q1_ => absurd (q1_.symm.trans ((up 11 9 (by decide)).trans (hl2 _ rfl 9 rfl))) (by decide)), (fun q0_ => (hT.2.2.2.2.2.2.2.2.2.1 (by rw [up 11 8 (by decide)] at q0_; exact q0_))), (fun q0_ => (hT.2.2.2.2.2.2.2.2.2.2 (by rw [up 11 9 (by decide)] at q0_; exact q0_)))⟩, fun _ _ _ => rfl⟩
      | k_ + 12, h_ => exact absurd h_ (by simp)
    rintro l_ ⟨g87, v88, g93, v94⟩ a X20 h1 h2 h3 h4 hall hT
    clear BB
    clear FTa
    clear FBo
    clear F6
    clear F11
    obtain ⟨BB, FTa, FBo, F6, F11, Fg87, Fgeg87, FTb, Fg93, Fgeg93, FBb⟩ := hT
    clear FTa
    clear FBo
    replace F6 : X20.heap[g6]? = some (.cells (stC kd tt nn pw) 32) := F6
    clear F11
    clear Fg87
    replace Fgeg87 : (V.heap.size ≤ g87) := Fgeg87 (hall 2 (by decide))
    replace FTb : (X20.ownsRow V.heap.size 25 2 v88 (m + 1) ((pairL (fun t => .string (strN (P t) (Ln t))) (fun t => .int .i64 (At t : Int)) m) ++ [.string (strN pf lp), .int .i64 ((0 : Nat) : Int)])) := FTb (hall 3 (by decide))
    clear Fg93
    replace Fgeg93 : (V.heap.size ≤ g93) := Fgeg93 (hall 8 (by decide))
    replace FBb : (X20.ownsRow V.heap.size 29 2 v94 (m + 1) ((pairL pvs (fun t => .int .i64 (At t : Int)) m) ++ [pw, .int .i64 ((0 : Nat) : Int)])) := FBb (hall 9 (by decide))
    clear hall
    replace t3 : a.eval (.tmp 3) = v88 := h4 (10, 3) (by decide)
    replace t4 : a.eval (.tmp 4) = v94 := h4 (11, 4) (by decide)
    replace t6 := (h3 6 (by decide)).trans t6
    replace t39 := (h3 39 (by decide)).trans t39
    replace t40 := (h3 40 (by decide)).trans t40
    replace t41 := (h3 41 (by decide)).trans t41
    replace A := (⟨h1, h2.trans A.2⟩ : a.tmps.size = 270 ∧ a.defers = [])
    clear h1 h2 h3 h4
    clear t11
    exact hQ a _ _ _ (m + 1) _ _ _ _ A t3 t4 t6 t39 t40 t41 BB (tb_push FT0 FTb FBb (Nat.zero_le _) hlp hpw nw) (Nat.le_refl _) F6
end Go.Proofs.Ytigkmgoidbamnaa.Tap
