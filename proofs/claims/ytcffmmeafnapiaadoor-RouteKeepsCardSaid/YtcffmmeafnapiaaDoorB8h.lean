import Derived.Test.YtcffmmeafnapiaaDoorB8g
namespace Go.Proofs.YtcffmmeafnapiaaDoor.Rou
open Go.RowKit Gf8 Aes By8 Cel Oni
/- RouteKeeps: two rounds over the lists. Written by tools/mkB8h.py. -/

/-- append, and the room that it leaves: the operation. -/
theorem execApp8 {o : Oper} {a : Act} {W : World} {B n m g c : Nat} {v : Value} {p : Nat → Nat} {s x : Operand}
    (ho : o.op = .call { callee := .builtin .append, args := #[s, x], argTypes := #[22, 22] })
    (hs : a.eval s = v) (hx : a.eval x = .slice (some ⟨g, 0, none⟩) m c) (hown : W.ownsRow B 5 1 v n (bytesL n p)) (hsrc : ∀ j, j < m → W.cell? ⟨g, j, none⟩ = some (.int .u8 (p (n + j))))
    (hbig : n + m ≤ 200000000000000) (hB : B ≤ W.heap.size) :
    ∃ v' W', (execOp a.eval o).run Tryd.prog W = .ok (.value v') W' ∧ W'.ownsRow B 5 1 v' (n + m) (bytesL (n + m) p) ∧ ((v'.ownBlock = v.ownBlock ∧ W.grownBy W' v.ownBlock ∧ capV v' = capV v) ∨ (v'.ownBlock = some W.heap.size ∧ W.grownBy W' none)) := by
  obtain ⟨i, h1, h2, h3, h4⟩ := info5
  obtain ⟨v', w', hr, q1, q2⟩ := run_append_ownR (P := Tryd.prog) W B 22 o.type 5 i (.int .u8 0) Tryd.underlying22 h1 h2 h3 h4 rfl v n (bytesL n p) hown ⟨g, 0, none⟩ m c (bytesL m fun j => p (n + j)) (bytesL_len _ _) (by
    intro j u hu
    have hj : j < m := by have := (List.getElem?_eq_some_iff.1 hu).1; rw [bytesL_len] at this; exact this
    rw [Addr.add_mid, Nat.zero_add, hsrc j hj]
    rw [bytesL_at m _ hj] at hu
    exact hu) (bytesL_one _ _) hbig hB
  rw [bytesL_app] at q1
  refine ⟨v', w', ?_, q1, q2⟩
  unfold execOp
  simp only [ho, resolve, invoke, builtin, Sem.run_bind, Sem.run_pure, Result.andThen_ok, List.map_toArray, List.map_cons, List.map_nil, hs, hx, hr]
theorem row_ne8 {W : World} {B B2 n m s k : Nat} {v u : Value} {xs ys : List Value} {t : TypeId} (h : W.ownsRow B 5 1 v n xs) (ho : W.ownsRow B2 t s u m ys) (ht : t ≠ 5) (hk : u.ownBlock = some k) : v.ownBlock ≠ some k := by
  rcases ho.2 with ⟨rfl, _⟩ | ⟨g, cap, cur, rfl, _, hg, _⟩
  · cases hk
  · obtain rfl : g = k := Option.some.inj hk
    exact fun q => own_ne h hg ht q.symm
/-- One of the lists is being grown: v, of n' bytes. -/
structure AG (W0 W : World) (m : Nat) (Y : Nat → Value) (nn : Nat → Nat) (ff : Nat → Nat → Nat) (u : Value) (i n' : Nat) (v : Value) : Prop where
  ap : ∃ gv gl, ApN W0.heap.size (m + 1) nn Y ff (fun _ => 238) gv gl W ∧ gv i = v ∧ gl i = n'
  row : W.ownsRow W0.heap.size 22 1 u m (lL Y m)
  bel : Below W0.heap.size W0 W
theorem AG.begin {W0 W : World} {MA : Nat} {cw : Nat → Nat} {m : Nat} {Y : Nat → Value} {nn : Nat → Nat} {ff : Nat → Nat → Nat} {u : Value} (h : LS W0 W MA cw m Y nn ff u) (i : Nat) : AG W0 W m Y nn ff u i (nn i) (Y i) :=
  ⟨⟨Y, nn, ApN.begin h.fam, rfl, rfl⟩, h.row, h.bel⟩
theorem AG.back {W0 W W1 : World} {MA : Nat} {cw : Nat → Nat} {m i n' : Nat} {Y : Nat → Value} {nn : Nat → Nat} {ff : Nat → Nat → Nat} {u v : Value} (h : AG W0 W m Y nn ff u i n' v) (L : LS W0 W1 MA cw m Y nn ff u) : LS W0 W MA cw m Y nn ff u := by
  obtain ⟨gv, gl, ap, _⟩ := h.ap
  exact ⟨ap.fam, h.row, h.bel, L.len, L.fst, L.m20⟩
theorem AG.on {W0 W W' : World} {m i n' : Nat} {Y : Nat → Value} {nn : Nat → Nat} {ff : Nat → Nat → Nat} {u v : Value} (h : AG W0 W m Y nn ff u i n' v) (hb : Below W.heap.size W W') : AG W0 W' m Y nn ff u i n' v := by
  obtain ⟨gv, gl, ap, e⟩ := h.ap
  exact ⟨⟨gv, gl, ap.on hb, e⟩, ownW_below h.row hb, h.bel.trans (hb.mono h.bel.size)⟩
theorem stepApp8 {ops : Array Oper} {Q : Exit → Act → World → Prop} {K : Act → World → Prop} {j : Nat} {o : Oper} {a : Act} {s x : Operand} {g : Nat} {W0 W : World} {m i n' : Nat} {Y : Nat → Value} {nn : Nat → Nat} {ff : Nat → Nat → Nat} {u v : Value} (hos : ops[j]? = some o) (hgd : Region.wanted o (yielded ops a.tmps) = true)
    (ho : o.op = .call { callee := .builtin .append, args := #[s, x], argTypes := #[22, 22] }) (hs : a.eval s = v) (hx : a.eval x = .slice (some ⟨g, 0, none⟩) 1 1) (h : AG W0 W m Y nn ff u i n' v) (hg : W.heap[g]? = some (.cells #[.int .u8 238] 5)) (hi : i < m) (hn : nn i ≤ n') (hb : n' ≤ 1000000)
    (hK : ∀ v' W', AG W0 W' m Y nn ff u i (n' + 1) v' → K (a.put o.dst v') W') : wpOp Tryd.prog ops Q j K a W := by
  obtain ⟨gv, gl, ap, e1, e2⟩ := h.ap
  have own := ap.grown i (by omega)
  rw [e1, e2] at own
  obtain ⟨v', W', run, own', hp⟩ := execApp8 (n := n') (m := 1) (p := gM (ff i) (nn i) 238) ho hs hx own (fun k hk => by
    obtain rfl : k = 0 := by omega
    rw [cell_of_row _ _ _ _ _ _ hg]
    show some (Value.int .u8 238) = _
    unfold gM
    rw [if_neg (by omega)]
    rfl) (by omega) h.bel.size
  refine stepV hos hgd run (hK v' W' ⟨⟨_, _, ap.grow (i := i) (k := 1) (v' := v') (by omega) (by rw [e2]; exact own') (by rw [e1]; exact hp), updX_at _ _ _, by show (if i = i then gl i + 1 else gl i) = _; rw [if_pos rfl, e2]⟩, ?_, ?_⟩)
  · rcases hp with ⟨_, hg, _⟩ | ⟨_, hg⟩
    · exact ownW_grown h.row hg (fun k hk q => row_ne8 own h.row (by decide) hk q)
    · exact ownW_grown h.row hg (fun k _ q => by cases q)
  · rcases hp with ⟨_, hg, _⟩ | ⟨_, hg⟩
    · exact h.bel.grown hg h.bel.size (fun b hb2 => (own.lt b hb2).1)
    · exact h.bel.grown hg h.bel.size (fun b hb2 => by cases hb2)
set_option maxRecDepth 100000 in
set_option maxHeartbeats 4000000 in
theorem keeps47 (c : RX) (V : World) (W0 : World) (u6 nv : Value) (pg pk : Nat) (cw : Nat → Nat) (MA m ug uc : Nat) (Y : Nat → Value) (nn : Nat → Nat) (G : Nat → Nat → Nat) (fv : Value) (hG : ∀ t, t < m → ∀ l, G t l = t + 1)
    (h : ∀ (a : Act) (W : World), RA c a → LS W0 W MA cw m Y nn G (.slice (some ⟨ug, 0, none⟩) m uc) → a.eval (.tmp 6) = u6 → a.eval (.tmp 10) = nv → a.eval (.tmp 11) = .slice (some ⟨pg, 0, none⟩) (c.n + 2) pk → a.eval (.tmp 27) = fv → (fromR 63 (Tryd.f7.body.getD .skip)).wp Tryd.prog (bodyPost Tryd.prog Tryd.f7 fun e w' => e = .returned (.bool true) ∧ Below V.heap.size V w') a W)
    (a : Act) (W : World) (A : RA c a) (L : LS W0 W MA cw m Y nn G (.slice (some ⟨ug, 0, none⟩) m uc)) (t6 : a.eval (.tmp 6) = u6) (t10 : a.eval (.tmp 10) = nv) (t11 : a.eval (.tmp 11) = .slice (some ⟨pg, 0, none⟩) (c.n + 2) pk) (t21 : a.eval (.tmp 21) = .slice (some ⟨ug, 0, none⟩) m uc) (t27 : a.eval (.tmp 27) = fv) : (fromR 47 (Tryd.f7.body.getD .skip)).wp Tryd.prog (bodyPost Tryd.prog Tryd.f7 fun e w' => e = .returned (.bool true) ∧ Below V.heap.size V w') a W := by
  refine wp_seq ?_
  refine wp_seq ?_
  refine wp_region_sqK 375 [(0, 30)] (fun i_ => match i_ with | 0 => .int .i64 ((0 : Nat) : Int) | _ => undef) A.sz (by kernel_rfl) (by decide) (by decide) ?_ ?_
  · intro i_ hi_ a hf hv hn
    match i_, hi_ with
    | 0, _ => exact stepV rfl rfl (execAsgB rfl rfl) ⟨⟨_, rfl, rfl⟩, rfl⟩
    | k_ + 1, h_ => exact absurd h_ (by simp)
  intro a h1 h2 h3 h4
  have t6 := (h3 6 (by decide)).trans t6
  have t10 := (h3 10 (by decide)).trans t10
  have t11 := (h3 11 (by decide)).trans t11
  have t21 := (h3 21 (by decide)).trans t21
  have t27 := (h3 27 (by decide)).trans t27
  have t30 : a.eval (.tmp 30) = .int .i64 ((0 : Nat) : Int) := h4 0 _ rfl _ rfl
  have A := A.keep h1 h2 h3 (by decide)
  clear h1 h2 h3 h4
  refine wp_block ?_
  refine wp_loop (fun a W => ∃ r : Nat, r ≤ 2 ∧ RA c a ∧ (a.eval (.tmp 6) = u6 ∧ a.eval (.tmp 10) = nv ∧ a.eval (.tmp 11) = .slice (some ⟨pg, 0, none⟩) (c.n + 2) pk ∧ a.eval (.tmp 21) = .slice (some ⟨ug, 0, none⟩) m uc ∧ a.eval (.tmp 27) = fv) ∧ a.eval (.tmp 30) = .int .i64 ((r : Nat) : Int) ∧ LS W0 W MA cw m Y nn G (.slice (some ⟨ug, 0, none⟩) m uc)) (fun a _ => 2 - (intOf (a.eval (.tmp 30))).toNat) ⟨0, by omega, A, ⟨t6, t10, t11, t21, t27⟩, t30, L⟩ ?_
  clear A L t6 t10 t11 t21 t27 t30 a W
  rintro a W ⟨r, hr, A, ⟨t6, t10, t11, t21, t27⟩, t30, L⟩
  have e30 := t30
  refine wp_seq ?_
  refine wp_seq ?_
  refine wp_region_sqK 375 [(0, 244), (1, 245)] (fun i_ => match i_ with | 0 => .int .i64 ((r : Nat) : Int) | 1 => .bool (decide (r < 2)) | _ => undef) A.sz (by kernel_rfl) (by decide) (by decide) ?_ ?_
  · intro i_ hi_ a hf hv hn
    match i_, hi_ with
    | 0, _ => exact stepV rfl rfl (execMvB rfl ((hf 30 (by decide)).trans t30)) ⟨⟨_, rfl, rfl⟩, rfl⟩
    | 1, _ => exact stepV rfl rfl (execLt8 (p := r) (q := 2) rfl (hv 0 (by omega) _ rfl _ rfl)) ⟨⟨_, rfl, rfl⟩, rfl⟩
    | k_ + 2, h_ => exact absurd h_ (by simp)
  intro a h1 h2 h3 h4
  have t6 := (h3 6 (by decide)).trans t6
  have t10 := (h3 10 (by decide)).trans t10
  have t11 := (h3 11 (by decide)).trans t11
  have t21 := (h3 21 (by decide)).trans t21
  have t27 := (h3 27 (by decide)).trans t27
  have t30 := (h3 30 (by decide)).trans t30
  have t245 : a.eval (.tmp 245) = .bool (decide (r < 2)) := h4 1 _ rfl _ rfl
  have A := A.keep h1 h2 h3 (by decide)
  clear h1 h2 h3 h4
  by_cases hr2 : r < 2
  · rw [decide_eq_true hr2] at t245
    refine wp_cond_true t245 ?_
    refine wp_skip ?_
    clear t245
    refine wp_seq ?_
    refine wp_block ?_
    refine wp_seq ?_
    refine wp_region_sqK 375 [(0, 31)] (fun i_ => match i_ with | 0 => .int .i64 ((0 : Nat) : Int) | _ => undef) A.sz (by kernel_rfl) (by decide) (by decide) ?_ ?_
    · intro i_ hi_ a hf hv hn
      match i_, hi_ with
      | 0, _ => exact stepV rfl rfl (execAsgB rfl rfl) ⟨⟨_, rfl, rfl⟩, rfl⟩
      | k_ + 1, h_ => exact absurd h_ (by simp)
    intro a h1 h2 h3 h4
    have t6 := (h3 6 (by decide)).trans t6
    have t10 := (h3 10 (by decide)).trans t10
    have t11 := (h3 11 (by decide)).trans t11
    have t21 := (h3 21 (by decide)).trans t21
    have t27 := (h3 27 (by decide)).trans t27
    have t30 := (h3 30 (by decide)).trans t30
    have t31 : a.eval (.tmp 31) = .int .i64 ((0 : Nat) : Int) := h4 0 _ rfl _ rfl
    have A := A.keep h1 h2 h3 (by decide)
    clear h1 h2 h3 h4
    refine wp_block ?_
    refine wp_loop (fun a W => ∃ i : Nat, i ≤ m ∧ RA c a ∧ (a.eval (.tmp 6) = u6 ∧ a.eval (.tmp 10) = nv ∧ a.eval (.tmp 11) = .slice (some ⟨pg, 0, none⟩) (c.n + 2) pk ∧ a.eval (.tmp 21) = .slice (some ⟨ug, 0, none⟩) m uc ∧ a.eval (.tmp 27) = fv) ∧ a.eval (.tmp 30) = .int .i64 ((r : Nat) : Int) ∧ a.eval (.tmp 31) = .int .i64 ((i : Nat) : Int) ∧ LS W0 W MA cw m Y nn G (.slice (some ⟨ug, 0, none⟩) m uc)) (fun a _ => m - (intOf (a.eval (.tmp 31))).toNat) ⟨0, by omega, A, ⟨t6, t10, t11, t21, t27⟩, t30, t31, L⟩ ?_
    clear A L t6 t10 t11 t21 t27 t30 t31 a W
    rintro a W ⟨i, hi, A, ⟨t6, t10, t11, t21, t27⟩, t30, t31, L⟩
    have e31 := t31
    refine wp_seq ?_
    refine wp_seq ?_
    refine wp_region_sqK 375 [(0, 248), (1, 249), (2, 250), (3, 251)] (fun i_ => match i_ with | 0 => .int .i64 ((i : Nat) : Int) | 1 => .slice (some ⟨ug, 0, none⟩) m uc | 2 => .int .i64 ((m : Nat) : Int) | 3 => .bool (decide (i < m)) | _ => undef) A.sz (by kernel_rfl) (by decide) (by decide) ?_ ?_
    · intro i_ hi_ a hf hv hn
      match i_, hi_ with
      | 0, _ => exact stepV rfl rfl (execMvB rfl ((hf 31 (by decide)).trans t31)) ⟨⟨_, rfl, rfl⟩, rfl⟩
      | 1, _ => exact stepV rfl rfl (execMvB rfl ((hf 21 (by decide)).trans t21)) ⟨⟨_, rfl, rfl⟩, rfl⟩
      | 2, _ => exact stepV rfl rfl (execLenL (len := m) rfl (hv 1 (by omega) _ rfl _ rfl)) ⟨⟨_, rfl, rfl⟩, rfl⟩
      | 3, _ => exact stepV rfl rfl (execLtW (p := i) (q := m) rfl (hv 0 (by omega) _ rfl _ rfl) (hv 2 (by omega) _ rfl _ rfl)) ⟨⟨_, rfl, rfl⟩, rfl⟩
      | k_ + 4, h_ => exact absurd h_ (by simp)
    intro a h1 h2 h3 h4
    have t6 := (h3 6 (by decide)).trans t6
    have t10 := (h3 10 (by decide)).trans t10
    have t11 := (h3 11 (by decide)).trans t11
    have t21 := (h3 21 (by decide)).trans t21
    have t27 := (h3 27 (by decide)).trans t27
    have t30 := (h3 30 (by decide)).trans t30
    have t31 := (h3 31 (by decide)).trans t31
    have t251 : a.eval (.tmp 251) = .bool (decide (i < m)) := h4 3 _ rfl _ rfl
    have A := A.keep h1 h2 h3 (by decide)
    clear h1 h2 h3 h4
    by_cases hlt : i < m
    · rw [decide_eq_true hlt] at t251
      refine wp_cond_true t251 ?_
      refine wp_skip ?_
      clear t251
      obtain ⟨xa, xc, ex⟩ := own_shapeJ (L.fam.rows i (by omega))
      have hln := L.len i hlt
      have hm20 := L.m20
      have cX := L.cell hlt
      rw [ex] at cX
      refine wp_seq ?_
      refine wp_block ?_
      refine wp_seq ?_
      refine wp_region_sqK 375 [(0, 254), (1, 255), (2, 256), (3, 257), (4, 32)] (fun i_ => match i_ with | 0 => .slice (some ⟨ug, 0, none⟩) m uc | 1 => .int .i64 ((i : Nat) : Int) | 2 => .pointer (some ⟨ug, 0 + i, none⟩) | 3 => .slice xa (nn i) xc | 4 => .slice xa (nn i) xc | _ => undef) A.sz (by kernel_rfl) (by decide) (by decide) ?_ ?_
      · intro i_ hi_ a hf hv hn
        match i_, hi_ with
        | 0, _ => exact stepV rfl rfl (execMvB rfl ((hf 21 (by decide)).trans t21)) ⟨⟨_, rfl, rfl⟩, rfl⟩
        | 1, _ => exact stepV rfl rfl (execMvB rfl ((hf 31 (by decide)).trans t31)) ⟨⟨_, rfl, rfl⟩, rfl⟩
        | 2, _ => exact stepV rfl rfl (execIdxL (k := i) rfl (hv 0 (by omega) _ rfl _ rfl) (hv 1 (by omega) _ rfl _ rfl) (by exact hlt)) ⟨⟨_, rfl, rfl⟩, rfl⟩
        | 3, _ => exact stepV rfl rfl (execLdL rfl (hv 2 (by omega) _ rfl _ rfl) cX) ⟨⟨_, rfl, rfl⟩, rfl⟩
        | 4, _ => exact stepV rfl rfl (execAsgB rfl (hv 3 (by omega) _ rfl _ rfl)) ⟨⟨_, rfl, rfl⟩, rfl⟩
        | k_ + 5, h_ => exact absurd h_ (by simp)
      intro a h1 h2 h3 h4
      have t6 := (h3 6 (by decide)).trans t6
      have t10 := (h3 10 (by decide)).trans t10
      have t11 := (h3 11 (by decide)).trans t11
      have t21 := (h3 21 (by decide)).trans t21
      have t27 := (h3 27 (by decide)).trans t27
      have t30 := (h3 30 (by decide)).trans t30
      have t31 := (h3 31 (by decide)).trans t31
      have t32 : a.eval (.tmp 32) = .slice xa (nn i) xc := h4 4 _ rfl _ rfl
      have A := A.keep h1 h2 h3 (by decide)
      clear h1 h2 h3 h4
      clear cX
      refine wp_seq ?_
      refine wp_seq ?_
      refine wp_region_sqK 375 [(0, 33)] (fun i_ => match i_ with | 0 => .int .i64 ((0 : Nat) : Int) | _ => undef) A.sz (by kernel_rfl) (by decide) (by decide) ?_ ?_
      · intro i_ hi_ a hf hv hn
        match i_, hi_ with
        | 0, _ => exact stepV rfl rfl (execAsgB rfl rfl) ⟨⟨_, rfl, rfl⟩, rfl⟩
        | k_ + 1, h_ => exact absurd h_ (by simp)
      intro a h1 h2 h3 h4
      have t6 := (h3 6 (by decide)).trans t6
      have t10 := (h3 10 (by decide)).trans t10
      have t11 := (h3 11 (by decide)).trans t11
      have t21 := (h3 21 (by decide)).trans t21
      have t27 := (h3 27 (by decide)).trans t27
      have t30 := (h3 30 (by decide)).trans t30
      have t31 := (h3 31 (by decide)).trans t31
      have t32 := (h3 32 (by decide)).trans t32
      have t33 : a.eval (.tmp 33) = .int .i64 ((0 : Nat) : Int) := h4 0 _ rfl _ rfl
      have A := A.keep h1 h2 h3 (by decide)
      clear h1 h2 h3 h4
      refine wp_block ?_
      refine wp_loop (fun a W => ∃ k : Nat, k ≤ nn i ∧ RA c a ∧ (a.eval (.tmp 6) = u6 ∧ a.eval (.tmp 10) = nv ∧ a.eval (.tmp 11) = .slice (some ⟨pg, 0, none⟩) (c.n + 2) pk ∧ a.eval (.tmp 21) = .slice (some ⟨ug, 0, none⟩) m uc ∧ a.eval (.tmp 27) = fv) ∧ a.eval (.tmp 30) = .int .i64 ((r : Nat) : Int) ∧ a.eval (.tmp 31) = .int .i64 ((i : Nat) : Int) ∧ a.eval (.tmp 32) = .slice xa (nn i) xc ∧ a.eval (.tmp 33) = .int .i64 ((k : Nat) : Int) ∧ LS W0 W MA cw m Y nn G (.slice (some ⟨ug, 0, none⟩) m uc)) (fun a _ => nn i - (intOf (a.eval (.tmp 33))).toNat) ⟨0, by omega, A, ⟨t6, t10, t11, t21, t27⟩, t30, t31, t32, t33, L⟩ ?_
      clear A L t6 t10 t11 t21 t27 t30 t31 t32 t33 a W
      rintro a W ⟨k, hk0, A, ⟨t6, t10, t11, t21, t27⟩, t30, t31, t32, t33, L⟩
      have e33 := t33
      refine wp_seq ?_
      refine wp_seq ?_
      refine wp_region_sqK 375 [(0, 258), (1, 259), (2, 260), (3, 261)] (fun i_ => match i_ with | 0 => .int .i64 ((k : Nat) : Int) | 1 => .slice xa (nn i) xc | 2 => .int .i64 (((nn i) : Nat) : Int) | 3 => .bool (decide (k < (nn i))) | _ => undef) A.sz (by kernel_rfl) (by decide) (by decide) ?_ ?_
      · intro i_ hi_ a hf hv hn
        match i_, hi_ with
        | 0, _ => exact stepV rfl rfl (execMvB rfl ((hf 33 (by decide)).trans t33)) ⟨⟨_, rfl, rfl⟩, rfl⟩
        | 1, _ => exact stepV rfl rfl (execMvB rfl ((hf 32 (by decide)).trans t32)) ⟨⟨_, rfl, rfl⟩, rfl⟩
        | 2, _ => exact stepV rfl rfl (execLenV (len := (nn i)) rfl (hv 1 (by omega) _ rfl _ rfl) ⟨_, _, rfl⟩) ⟨⟨_, rfl, rfl⟩, rfl⟩
        | 3, _ => exact stepV rfl rfl (execLtW (p := k) (q := (nn i)) rfl (hv 0 (by omega) _ rfl _ rfl) (hv 2 (by omega) _ rfl _ rfl)) ⟨⟨_, rfl, rfl⟩, rfl⟩
        | k_ + 4, h_ => exact absurd h_ (by simp)
      intro a h1 h2 h3 h4
      have t6 := (h3 6 (by decide)).trans t6
      have t10 := (h3 10 (by decide)).trans t10
      have t11 := (h3 11 (by decide)).trans t11
      have t21 := (h3 21 (by decide)).trans t21
      have t27 := (h3 27 (by decide)).trans t27
      have t30 := (h3 30 (by decide)).trans t30
      have t31 := (h3 31 (by decide)).trans t31
      have t32 := (h3 32 (by decide)).trans t32
      have t33 := (h3 33 (by decide)).trans t33
      have t261 : a.eval (.tmp 261) = .bool (decide (k < (nn i))) := h4 3 _ rfl _ rfl
      have A := A.keep h1 h2 h3 (by decide)
      clear h1 h2 h3 h4
      by_cases hk : k < nn i
      · rw [decide_eq_true hk] at t261
        refine wp_cond_true t261 ?_
        refine wp_skip ?_
        clear t261
        have LW := L.fam.rows i (by omega)
        obtain ⟨xg, xc2, ex2, _⟩ := own_cells LW (by omega)
        have e3 : xa = some ⟨xg, 0, none⟩ ∧ xc = xc2 := by
          have := ex.symm.trans ex2
          injection this with h1 _ h2
          exact ⟨h1, h2⟩
        obtain ⟨rfl, rfl⟩ := e3
        rw [ex] at LW
        have cB : W.cell? ⟨xg, k, none⟩ = some (.int .u8 (((i + 1) % 256 : Nat) : Int)) := by
          rw [own_at8 LW hk, hG i hlt, show (i + 1) % 256 = i + 1 by omega]
        refine wp_seq ?_
        refine wp_block ?_
        refine wp_seq ?_
        refine wp_region_sqK 375 [(0, 264), (1, 265), (2, 266), (3, 267), (4, 268), (5, 269), (6, 270), (7, 271)] (fun i_ => match i_ with | 0 => .slice (some ⟨xg, 0, none⟩) (nn i) xc | 1 => .int .i64 ((k : Nat) : Int) | 2 => .pointer (some ⟨xg, k, none⟩) | 3 => .int .u8 (((i + 1) % 256 : Nat) : Int) | 4 => .int .i64 ((i : Nat) : Int) | 5 => .int .i64 ((i + 1 : Nat) : Int) | 6 => .int .u8 (((i + 1) % 256 : Nat) : Int) | 7 => .bool false | _ => undef) A.sz (by kernel_rfl) (by decide) (by decide) ?_ ?_
        · intro i_ hi_ a hf hv hn
          match i_, hi_ with
          | 0, _ => exact stepV rfl rfl (execMvB rfl ((hf 32 (by decide)).trans t32)) ⟨⟨_, rfl, rfl⟩, rfl⟩
          | 1, _ => exact stepV rfl rfl (execMvB rfl ((hf 33 (by decide)).trans t33)) ⟨⟨_, rfl, rfl⟩, rfl⟩
          | 2, _ => exact stepV rfl rfl (execIdxS0 (k := k) rfl (hv 0 (by omega) _ rfl _ rfl) (hv 1 (by omega) _ rfl _ rfl) (by exact hk)) ⟨⟨_, rfl, rfl⟩, rfl⟩
          | 3, _ => exact stepV rfl rfl (execLdB rfl (hv 2 (by omega) _ rfl _ rfl) cB) ⟨⟨_, rfl, rfl⟩, rfl⟩
          | 4, _ => exact stepV rfl rfl (execMvB rfl ((hf 31 (by decide)).trans t31)) ⟨⟨_, rfl, rfl⟩, rfl⟩
          | 5, _ => exact stepV rfl rfl (execAd8 (p := i) (q := 1) rfl (hv 4 (by omega) _ rfl _ rfl) rfl (by have := L.m20; omega)) ⟨⟨_, rfl, rfl⟩, rfl⟩
          | 6, _ => exact stepV rfl rfl (execU8 (n := i + 1) rfl (hv 5 (by omega) _ rfl _ rfl)) ⟨⟨_, rfl, rfl⟩, rfl⟩
          | 7, _ => exact stepV rfl rfl (execNeqU8 rfl (hv 3 (by omega) _ rfl _ rfl) (hv 6 (by omega) _ rfl _ rfl)) ⟨⟨_, rfl, rfl⟩, rfl⟩
          | k_ + 8, h_ => exact absurd h_ (by simp)
        intro a h1 h2 h3 h4
        have t6 := (h3 6 (by decide)).trans t6
        have t10 := (h3 10 (by decide)).trans t10
        have t11 := (h3 11 (by decide)).trans t11
        have t21 := (h3 21 (by decide)).trans t21
        have t27 := (h3 27 (by decide)).trans t27
        have t30 := (h3 30 (by decide)).trans t30
        have t31 := (h3 31 (by decide)).trans t31
        have t32 := (h3 32 (by decide)).trans t32
        have t33 := (h3 33 (by decide)).trans t33
        have t271 : a.eval (.tmp 271) = .bool false := h4 7 _ rfl _ rfl
        have A := A.keep h1 h2 h3 (by decide)
        clear h1 h2 h3 h4
        refine wp_cond_false t271 ?_
        refine wp_skip ?_
        clear t271
        refine wp_region_sqK 375 [(0, 262), (1, 263), (2, 33)] (fun i_ => match i_ with | 0 => .int .i64 ((k : Nat) : Int) | 1 => .int .i64 ((k + 1 : Nat) : Int) | 2 => .int .i64 ((k + 1 : Nat) : Int) | _ => undef) A.sz (by kernel_rfl) (by decide) (by decide) ?_ ?_
        · intro i_ hi_ a hf hv hn
          match i_, hi_ with
          | 0, _ => exact stepV rfl rfl (execMvB rfl ((hn 2 (by omega) _ rfl _ rfl).trans t33)) ⟨⟨_, rfl, rfl⟩, rfl⟩
          | 1, _ => exact stepV rfl rfl (execAd8 (p := k) (q := 1) rfl (hv 0 (by omega) _ rfl _ rfl) rfl (by have := hln; omega)) ⟨⟨_, rfl, rfl⟩, rfl⟩
          | 2, _ => exact stepV rfl rfl (execAsgB rfl (hv 1 (by omega) _ rfl _ rfl)) ⟨⟨_, rfl, rfl⟩, rfl⟩
          | k_ + 3, h_ => exact absurd h_ (by simp)
        intro a h1 h2 h3 h4
        have t6 := (h3 6 (by decide)).trans t6
        have t10 := (h3 10 (by decide)).trans t10
        have t11 := (h3 11 (by decide)).trans t11
        have t21 := (h3 21 (by decide)).trans t21
        have t27 := (h3 27 (by decide)).trans t27
        have t30 := (h3 30 (by decide)).trans t30
        have t31 := (h3 31 (by decide)).trans t31
        have t32 := (h3 32 (by decide)).trans t32
        have t33 : a.eval (.tmp 33) = .int .i64 ((k + 1 : Nat) : Int) := h4 2 _ rfl _ rfl
        have A := A.keep h1 h2 h3 (by decide)
        clear h1 h2 h3 h4
        exact ⟨⟨k + 1, hk, A, ⟨t6, t10, t11, t21, t27⟩, t30, t31, t32, t33, L⟩, by show nn i - (intOf (a.eval (.tmp 33))).toNat < nn i - (intOf (Act.eval _ (.tmp 33))).toNat; rw [t33, e33]; show nn i - (k + 1) < nn i - k; omega⟩
      · rw [decide_eq_false hk] at t261
        refine wp_cond_false t261 ?_
        refine wp_exit ?_
        first | refine exit_in ?_ | refine exit_then (exit_in ?_) | refine exit_then (exit_then (exit_in ?_))
        clear t261 t33 e33 hk hk0
        refine wp_seq ?_
        refine wp_region_sqK 375 [(0, 34)] (fun i_ => match i_ with | 0 => .int .i64 ((0 : Nat) : Int) | _ => undef) A.sz (by kernel_rfl) (by decide) (by decide) ?_ ?_
        · intro i_ hi_ a hf hv hn
          match i_, hi_ with
          | 0, _ => exact stepV rfl rfl (execAsgB rfl rfl) ⟨⟨_, rfl, rfl⟩, rfl⟩
          | k_ + 1, h_ => exact absurd h_ (by simp)
        intro a h1 h2 h3 h4
        have t6 := (h3 6 (by decide)).trans t6
        have t10 := (h3 10 (by decide)).trans t10
        have t11 := (h3 11 (by decide)).trans t11
        have t21 := (h3 21 (by decide)).trans t21
        have t27 := (h3 27 (by decide)).trans t27
        have t30 := (h3 30 (by decide)).trans t30
        have t31 := (h3 31 (by decide)).trans t31
        have t32 := (h3 32 (by decide)).trans t32
        have t34 : a.eval (.tmp 34) = .int .i64 ((0 : Nat) : Int) := h4 0 _ rfl _ rfl
        have A := A.keep h1 h2 h3 (by decide)
        clear h1 h2 h3 h4
        refine wp_block ?_
        refine wp_loop (fun a W => ∃ (k : Nat) (v : Value), k ≤ 400 ∧ RA c a ∧ (a.eval (.tmp 6) = u6 ∧ a.eval (.tmp 10) = nv ∧ a.eval (.tmp 11) = .slice (some ⟨pg, 0, none⟩) (c.n + 2) pk ∧ a.eval (.tmp 21) = .slice (some ⟨ug, 0, none⟩) m uc ∧ a.eval (.tmp 27) = fv) ∧ a.eval (.tmp 30) = .int .i64 ((r : Nat) : Int) ∧ a.eval (.tmp 31) = .int .i64 ((i : Nat) : Int) ∧ a.eval (.tmp 32) = v ∧ a.eval (.tmp 34) = .int .i64 ((k : Nat) : Int) ∧ AG W0 W m Y nn G (.slice (some ⟨ug, 0, none⟩) m uc) i (nn i + k) v) (fun a _ => 400 - (intOf (a.eval (.tmp 34))).toNat) ⟨0, _, by omega, A, ⟨t6, t10, t11, t21, t27⟩, t30, t31, t32.trans ex.symm, t34, AG.begin L i⟩ ?_
        clear A t6 t10 t11 t21 t27 t30 t31 t32 t34 a
        rintro a W ⟨k, v, hk0, A, ⟨t6, t10, t11, t21, t27⟩, t30, t31, t32, t34, AA⟩
        have e34 := t34
        refine wp_seq ?_
        refine wp_seq ?_
        refine wp_region_sqK 375 [(0, 272), (1, 273)] (fun i_ => match i_ with | 0 => .int .i64 ((k : Nat) : Int) | 1 => .bool (decide (k < 400)) | _ => undef) A.sz (by kernel_rfl) (by decide) (by decide) ?_ ?_
        · intro i_ hi_ a hf hv hn
          match i_, hi_ with
          | 0, _ => exact stepV rfl rfl (execMvB rfl ((hf 34 (by decide)).trans t34)) ⟨⟨_, rfl, rfl⟩, rfl⟩
          | 1, _ => exact stepV rfl rfl (execLt8 (p := k) (q := 400) rfl (hv 0 (by omega) _ rfl _ rfl)) ⟨⟨_, rfl, rfl⟩, rfl⟩
          | k_ + 2, h_ => exact absurd h_ (by simp)
        intro a h1 h2 h3 h4
        have t6 := (h3 6 (by decide)).trans t6
        have t10 := (h3 10 (by decide)).trans t10
        have t11 := (h3 11 (by decide)).trans t11
        have t21 := (h3 21 (by decide)).trans t21
        have t27 := (h3 27 (by decide)).trans t27
        have t30 := (h3 30 (by decide)).trans t30
        have t31 := (h3 31 (by decide)).trans t31
        have t32 := (h3 32 (by decide)).trans t32
        have t34 := (h3 34 (by decide)).trans t34
        have t273 : a.eval (.tmp 273) = .bool (decide (k < 400)) := h4 1 _ rfl _ rfl
        have A := A.keep h1 h2 h3 (by decide)
        clear h1 h2 h3 h4
        by_cases hk : k < 400
        · rw [decide_eq_true hk] at t273
          refine wp_cond_true t273 ?_
          refine wp_skip ?_
          clear t273
          refine wp_seq ?_
          refine wp_block ?_
          refine wp_region_sq (σ := Nat × Value) 375 [(0, 276), (1, 277), (2, 278), (3, 32)] (fun j_ s X => True ∧ (match j_ with | 0 => AG W0 X m Y nn G (.slice (some ⟨ug, 0, none⟩) m uc) i (nn i + k) v | 1 => AG W0 X m Y nn G (.slice (some ⟨ug, 0, none⟩) m uc) i (nn i + k) v | 2 => AG W0 X m Y nn G (.slice (some ⟨ug, 0, none⟩) m uc) i (nn i + k) v ∧ X.heap[s.1]? = some (.cells #[.int .u8 238] 5) | 3 => AG W0 X m Y nn G (.slice (some ⟨ug, 0, none⟩) m uc) i (nn i + k + 1) s.2 | _ => AG W0 X m Y nn G (.slice (some ⟨ug, 0, none⟩) m uc) i (nn i + k + 1) s.2)) (fun s => fun i_ => match i_ with | 0 => v | 1 => .slice (some ⟨s.1, 0, none⟩) 1 1 | 2 => s.2 | 3 => s.2 | _ => undef) (0, undef) A.sz (by kernel_rfl) (by decide) (by decide) ⟨trivial, AA⟩ ?_ ?_
          · intro i_ hi_ s a X hf hv hn hS
            match i_, hi_ with
            | 0, _ => exact stepV rfl rfl (execMvB rfl ((hn 3 (by omega) _ rfl _ rfl).trans t32)) ⟨s, ⟨_, rfl, rfl⟩, hS, fun _ _ => rfl⟩
            | 1, _ =>
              refine stepV rfl rfl (execBsU rfl) ⟨(X.heap.size, s.2), ⟨_, rfl, rfl⟩, ⟨trivial, hS.2.on (belNew X _), heapNew X _⟩, fun i hi => ?_⟩
              match i, hi with
              | 0, _ => rfl
              | n_ + 1, h_ => omega
            | 2, _ =>
              refine stepApp8 rfl rfl rfl (hv 0 (by omega) _ rfl _ rfl) (hv 1 (by omega) _ rfl _ rfl) hS.2.1 hS.2.2 (by omega) (by omega) (by omega) fun v' W' hA => ⟨(s.1, v'), ⟨_, rfl, rfl⟩, ⟨trivial, hA⟩, fun i hi => ?_⟩
              match i, hi with
              | 0, _ => rfl
              | 1, _ => rfl
              | n_ + 2, h_ => omega
            | 3, _ => exact stepV rfl rfl (execAsgB rfl (hv 2 (by omega) _ rfl _ rfl)) ⟨s, ⟨_, rfl, rfl⟩, hS, fun _ _ => rfl⟩
            | k_ + 4, h_ => exact absurd h_ (by simp)
          intro s a X h1 h2 h3 h4 hS
          have hS : True ∧ AG W0 X m Y nn G (.slice (some ⟨ug, 0, none⟩) m uc) i (nn i + k + 1) s.2 := hS
          have t6 := (h3 6 (by decide)).trans t6
          have t10 := (h3 10 (by decide)).trans t10
          have t11 := (h3 11 (by decide)).trans t11
          have t21 := (h3 21 (by decide)).trans t21
          have t27 := (h3 27 (by decide)).trans t27
          have t30 := (h3 30 (by decide)).trans t30
          have t31 := (h3 31 (by decide)).trans t31
          have t32 : a.eval (.tmp 32) = s.2 := h4 3 _ rfl _ rfl
          have t34 := (h3 34 (by decide)).trans t34
          have A := A.keep h1 h2 h3 (by decide)
          clear h1 h2 h3 h4
          obtain ⟨g62, v⟩ := s
          have t32 : a.eval (.tmp 32) = v := t32
          obtain ⟨_, AA⟩ := hS
          refine wp_region_sqK 375 [(0, 274), (1, 275), (2, 34)] (fun i_ => match i_ with | 0 => .int .i64 ((k : Nat) : Int) | 1 => .int .i64 ((k + 1 : Nat) : Int) | 2 => .int .i64 ((k + 1 : Nat) : Int) | _ => undef) A.sz (by kernel_rfl) (by decide) (by decide) ?_ ?_
          · intro i_ hi_ a hf hv hn
            match i_, hi_ with
            | 0, _ => exact stepV rfl rfl (execMvB rfl ((hn 2 (by omega) _ rfl _ rfl).trans t34)) ⟨⟨_, rfl, rfl⟩, rfl⟩
            | 1, _ => exact stepV rfl rfl (execAd8 (p := k) (q := 1) rfl (hv 0 (by omega) _ rfl _ rfl) rfl (by omega)) ⟨⟨_, rfl, rfl⟩, rfl⟩
            | 2, _ => exact stepV rfl rfl (execAsgB rfl (hv 1 (by omega) _ rfl _ rfl)) ⟨⟨_, rfl, rfl⟩, rfl⟩
            | k_ + 3, h_ => exact absurd h_ (by simp)
          intro a h1 h2 h3 h4
          have t6 := (h3 6 (by decide)).trans t6
          have t10 := (h3 10 (by decide)).trans t10
          have t11 := (h3 11 (by decide)).trans t11
          have t21 := (h3 21 (by decide)).trans t21
          have t27 := (h3 27 (by decide)).trans t27
          have t30 := (h3 30 (by decide)).trans t30
          have t31 := (h3 31 (by decide)).trans t31
          have t32 := (h3 32 (by decide)).trans t32
          have t34 : a.eval (.tmp 34) = .int .i64 ((k + 1 : Nat) : Int) := h4 2 _ rfl _ rfl
          have A := A.keep h1 h2 h3 (by decide)
          clear h1 h2 h3 h4
          exact ⟨⟨k + 1, v, hk, A, ⟨t6, t10, t11, t21, t27⟩, t30, t31, t32, t34, AA⟩, by show 400 - (intOf (a.eval (.tmp 34))).toNat < 400 - (intOf (Act.eval _ (.tmp 34))).toNat; rw [t34, e34]; show 400 - (k + 1) < 400 - k; omega⟩
        · rw [decide_eq_false hk] at t273
          refine wp_cond_false t273 ?_
          refine wp_exit ?_
          first | refine exit_in ?_ | refine exit_then (exit_in ?_) | refine exit_then (exit_then (exit_in ?_))
          have L := AA.back L
          refine wp_region_sqK 375 [(0, 252), (1, 253), (2, 31)] (fun i_ => match i_ with | 0 => .int .i64 ((i : Nat) : Int) | 1 => .int .i64 ((i + 1 : Nat) : Int) | 2 => .int .i64 ((i + 1 : Nat) : Int) | _ => undef) A.sz (by kernel_rfl) (by decide) (by decide) ?_ ?_
          · intro i_ hi_ a hf hv hn
            match i_, hi_ with
            | 0, _ => exact stepV rfl rfl (execMvB rfl ((hn 2 (by omega) _ rfl _ rfl).trans t31)) ⟨⟨_, rfl, rfl⟩, rfl⟩
            | 1, _ => exact stepV rfl rfl (execAd8 (p := i) (q := 1) rfl (hv 0 (by omega) _ rfl _ rfl) rfl (by have := L.m20; omega)) ⟨⟨_, rfl, rfl⟩, rfl⟩
            | 2, _ => exact stepV rfl rfl (execAsgB rfl (hv 1 (by omega) _ rfl _ rfl)) ⟨⟨_, rfl, rfl⟩, rfl⟩
            | k_ + 3, h_ => exact absurd h_ (by simp)
          intro a h1 h2 h3 h4
          have t6 := (h3 6 (by decide)).trans t6
          have t10 := (h3 10 (by decide)).trans t10
          have t11 := (h3 11 (by decide)).trans t11
          have t21 := (h3 21 (by decide)).trans t21
          have t27 := (h3 27 (by decide)).trans t27
          have t30 := (h3 30 (by decide)).trans t30
          have t31 : a.eval (.tmp 31) = .int .i64 ((i + 1 : Nat) : Int) := h4 2 _ rfl _ rfl
          have A := A.keep h1 h2 h3 (by decide)
          clear h1 h2 h3 h4
          exact ⟨⟨i + 1, hlt, A, ⟨t6, t10, t11, t21, t27⟩, t30, t31, L⟩, by show m - (intOf (a.eval (.tmp 31))).toNat < m - (intOf (Act.eval _ (.tmp 31))).toNat; rw [t31, e31]; show m - (i + 1) < m - i; omega⟩
    · rw [decide_eq_false hlt] at t251
      refine wp_cond_false t251 ?_
      refine wp_exit ?_
      first | refine exit_in ?_ | refine exit_then (exit_in ?_) | refine exit_then (exit_then (exit_in ?_))
      refine wp_region_sqK 375 [(0, 246), (1, 247), (2, 30)] (fun i_ => match i_ with | 0 => .int .i64 ((r : Nat) : Int) | 1 => .int .i64 ((r + 1 : Nat) : Int) | 2 => .int .i64 ((r + 1 : Nat) : Int) | _ => undef) A.sz (by kernel_rfl) (by decide) (by decide) ?_ ?_
      · intro i_ hi_ a hf hv hn
        match i_, hi_ with
        | 0, _ => exact stepV rfl rfl (execMvB rfl ((hn 2 (by omega) _ rfl _ rfl).trans t30)) ⟨⟨_, rfl, rfl⟩, rfl⟩
        | 1, _ => exact stepV rfl rfl (execAd8 (p := r) (q := 1) rfl (hv 0 (by omega) _ rfl _ rfl) rfl (by omega)) ⟨⟨_, rfl, rfl⟩, rfl⟩
        | 2, _ => exact stepV rfl rfl (execAsgB rfl (hv 1 (by omega) _ rfl _ rfl)) ⟨⟨_, rfl, rfl⟩, rfl⟩
        | k_ + 3, h_ => exact absurd h_ (by simp)
      intro a h1 h2 h3 h4
      have t6 := (h3 6 (by decide)).trans t6
      have t10 := (h3 10 (by decide)).trans t10
      have t11 := (h3 11 (by decide)).trans t11
      have t21 := (h3 21 (by decide)).trans t21
      have t27 := (h3 27 (by decide)).trans t27
      have t30 : a.eval (.tmp 30) = .int .i64 ((r + 1 : Nat) : Int) := h4 2 _ rfl _ rfl
      have A := A.keep h1 h2 h3 (by decide)
      clear h1 h2 h3 h4
      exact ⟨⟨r + 1, hr2, A, ⟨t6, t10, t11, t21, t27⟩, t30, L⟩, by show 2 - (intOf (a.eval (.tmp 30))).toNat < 2 - (intOf (Act.eval _ (.tmp 30))).toNat; rw [t30, e30]; show 2 - (r + 1) < 2 - r; omega⟩
  · rw [decide_eq_false hr2] at t245
    refine wp_cond_false t245 ?_
    refine wp_exit ?_
    first | refine exit_in ?_ | refine exit_then (exit_in ?_) | refine exit_then (exit_then (exit_in ?_))
    exact h a W A L t6 t10 t11 t27
end Go.Proofs.YtcffmmeafnapiaaDoor.Rou
