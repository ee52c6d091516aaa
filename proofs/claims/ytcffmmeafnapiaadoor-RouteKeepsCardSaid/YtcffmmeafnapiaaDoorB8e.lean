import Derived.Test.YtcffmmeafnapiaaDoorB8d
namespace Go.Proofs.YtcffmmeafnapiaaDoor.Rou
open Go.RowKit Gf8 Aes By8 Cel Oni
/- RouteKeeps: the lists are put together. Written by tools/mkB8e.py. -/

/-- A drawn region through states, the frame kept closed; slots that are not yet filled are as they were. -/
theorem wp_region_stB {P : Program} {ops : Array Oper} {Q : Exit → Act → World → Prop} {id : Nat} {a0 : Act} {V : World} {σ : Type} (N : Nat) (ds : List (Nat × Nat)) (S : (Nat → Bool) → σ → World → Prop) (v : σ → Nat → Value) (s0 : σ)
    (hm : P.follows .mixedOrders = true) (hf : frontB .any ops = true) (hN : a0.tmps.size = N) (hD : dsOf ops = ds) (hnd : (ds.map (·.2)).Nodup) (hds : ds.all (fun p => decide (p.2 < N)) = true)
    (h0 : S (fun _ => false) s0 V.drew)
    (step : ∀ j, j < ops.size → ∀ l s a w, l j = false → (∀ e, e ∉ ds.map (·.2) → a.eval (.tmp e) = a0.eval (.tmp e)) → (∀ o, ops[j]? = some o → ∀ i, waits o i = true → ∀ q, ops[i]? = some q → ∀ d, q.dst = some d → a.eval (.tmp d) = v s i) →
      (∀ o, ops[j]? = some o → ∀ i, waits o i = true → l i = true) → (∀ i q, ops[i]? = some q → l i = true → ∀ m, waits q m = true → l m = true) → (∀ i q, ops[i]? = some q → ∀ d, q.dst = some d → l i = false → a.eval (.tmp d) = a0.eval (.tmp d)) → S l s w → wpOp P ops Q j (fun a' w' => ∃ s', (∃ o, ops[j]? = some o ∧ a' = a.put o.dst (v s' j)) ∧ S (updB l j) s' w' ∧ ∀ i, i < ops.size → l i = true → v s' i = v s i) a w)
    (fin : ∀ l s a w, a.tmps.size = N → a.defers = a0.defers → (∀ e, e ∉ ds.map (·.2) → a.eval (.tmp e) = a0.eval (.tmp e)) → (∀ p, p ∈ ds → a.eval (.tmp p.2) = v s p.1) → (∀ j, j < ops.size → l j = true) → S l s w → Q .normal a w) : (Code.region id ops true).wp P Q a0 V := by
  refine wp_region_detX N ds (fun l x w => ∃ s, S l s w ∧ ∀ i, i < ops.size → l i = true → x i = v s i) (fun _ => undef) hm hf hN hD hnd hds ⟨s0, h0, fun _ _ h => by cases h⟩ ?_ ?_
  · rintro j hj l x a w hl hfr hdep hl2 hcl hno ⟨s, hS, hx⟩
    refine wpOp_mono ?_ (step j hj l s a w hl hfr (fun o ho i hi q hq d hd => by rw [hdep o ho i hi q hq d hd]; exact hx i (Array.getElem?_eq_some_iff.1 hq).1 (hl2 o ho i hi)) hl2 hcl hno hS)
    rintro a' w' ⟨s', ho, hS', hv⟩
    refine ⟨v s' j, ho, s', hS', fun i hi h => ?_⟩
    unfold updS
    by_cases e : i = j
    · subst e; simp
    · have hli : l i = true := by
        unfold updB at h
        simpa [e] using h
      simp only [e, if_false]
      rw [hx i hi hli, hv i hi hli]
  · rintro l x w hall ⟨s, hS, hx⟩
    have e : putP a0 x ds = putP a0 (v s) ds := putP_congr ds a0 fun p hp => by
      subst hD
      obtain ⟨o, ho, _⟩ := mem_dsOf.1 (show (p.1, p.2) ∈ dsOf ops from hp)
      have hj := (Array.getElem?_eq_some_iff.1 ho).1
      exact hx _ hj (hall _ hj)
    rw [e]
    refine fin l s _ w (by rw [putP_size]; exact hN) (putP_defers _ _ _) (fun e he => putP_other _ _ _ he) (fun p hp => putP_same _ _ _ hnd (fun q hq => ?_) p hp) hall hS
    rw [hN]
    simpa using List.all_eq_true.1 hds q hq
theorem fam_one {B n : Nat} {v : Value} {f : Nat → Nat} {W : World} (h : W.ownsRow B 5 1 v n (bytesL n f)) : Fam B 1 (fun _ => v) (fun _ => n) (fun _ => f) W :=
  ⟨fun t ht => h, fun s t hs ht hst => by omega⟩
theorem fam_cat {B b m k : Nat} {x y : Nat → Value} {nn nm : Nat → Nat} {ff gg : Nat → Nat → Nat} {W : World} (h : Fam B m x nn ff W) (g : Fam b k y nm gg W) (hx : ∀ t, t < m → ∀ q, (x t).ownBlock = some q → q < b) (hB : B ≤ b) : Fam B (m + k) (fun t => if t < m then x t else y (t - m)) (fun t => if t < m then nn t else nm (t - m)) (fun t => if t < m then ff t else gg (t - m)) W := by
  have lo : ∀ t, t < k → ∀ q, (y t).ownBlock = some q → b ≤ q := fun t ht q hq => ((g.rows t ht).lt q hq).1
  refine ⟨fun t ht => ?_, fun s t hs ht hst => ?_⟩
  · by_cases e : t < m
    · simp only [if_pos e]; exact h.rows t e
    · simp only [if_neg e]; exact own_base (g.rows (t - m) (by omega)) hB
  · intro q hq q2
    by_cases e : s < m
    · by_cases e2 : t < m
      · simp only [if_pos e] at hq; simp only [if_pos e2] at q2; exact h.dis s t e e2 hst q hq q2
      · simp only [if_pos e] at hq; simp only [if_neg e2] at q2
        have := hx s e q hq
        have := lo (t - m) (by omega) q q2
        omega
    · by_cases e2 : t < m
      · simp only [if_neg e] at hq; simp only [if_pos e2] at q2
        have := hx t e2 q q2
        have := lo (s - m) (by omega) q hq
        omega
      · simp only [if_neg e] at hq; simp only [if_neg e2] at q2
        exact g.dis (s - m) (t - m) (by omega) (by omega) (by omega) q hq q2
theorem fam_perm {B m k : Nat} {x : Nat → Value} {nn : Nat → Nat} {ff : Nat → Nat → Nat} {W : World} (h : Fam B m x nn ff W) (π : Nat → Nat) (hp : ∀ t, t < k → π t < m) (hi : ∀ s t, s < k → t < k → s ≠ t → π s ≠ π t) : Fam B k (fun t => x (π t)) (fun t => nn (π t)) (fun t => ff (π t)) W :=
  ⟨fun t ht => h.rows (π t) (hp t ht), fun s t hs ht hst => h.dis (π s) (π t) (hp s hs) (hp t ht) (hi s t hs ht hst)⟩
theorem fam_way {W : World} {B : Nat} {v : Value} {n : Nat} {cv : Nat → Value} {r c : Nat → Nat → Nat} (h : Way W B v n cv r c) : Fam B n cv (fun _ => 320) c W :=
  ⟨h.own, fun s t hs ht hst q hq q2 => by
    rcases Nat.lt_or_ge s t with e | e
    · exact h.two s t e ht (hq.trans q2.symm)
    · exact h.two t s (by omega) hs (q2.trans hq.symm)⟩
theorem LQ.on {W0 W W' : World} {MA N : Nat} {cw : Nat → Nat} {r cc : Nat → Nat → Nat} {a b lv mv : Value} {cl cm : Nat → Value} {b1 b2 b3 b4 : Nat} (h : LQ W0 W MA N cw r cc a b lv mv cl cm b1 b2 b3 b4) (hb : Below W.heap.size W W') : LQ W0 W' MA N cw r cc a b lv mv cl cm b1 b2 b3 b4 :=
  ⟨ownsRow_below h.oa hb, ownsRow_below h.ob hb, h.wl.on hb, h.wm.on hb, h.ha, h.hb, h.hl, h.hm, ⟨h.le.1, h.le.2.1, h.le.2.2.1, h.le.2.2.2.1, Nat.le_trans h.le.2.2.2.2 hb.size⟩, h.bel.trans (hb.mono (Nat.le_trans h.le.1 (Nat.le_trans h.le.2.1 (Nat.le_trans h.le.2.2.1 (Nat.le_trans h.le.2.2.2.1 h.le.2.2.2.2)))))⟩
theorem ownQ_shape {W : World} {B n s : Nat} {t : TypeId} {v : Value} {xs : List Value} (h : W.ownsRow B t s v n xs) : ∃ a c, v = .slice a n c := by
  rcases h.2 with ⟨rfl, rfl⟩ | ⟨g, cap, cur, rfl, _⟩
  · exact ⟨_, _, rfl⟩
  · exact ⟨_, _, rfl⟩
theorem execLenQ {o : Oper} {a : Act} {w : World} {x : Operand} {ao : Option Addr} {c len : Nat} (ho : o.op = .call { callee := .builtin .len, args := #[x], argTypes := #[37] }) (hx : a.eval x = .slice ao len c) : (execOp a.eval o).run Tryd.prog w = .ok (.value (.int .i64 (len : Int))) w := by
  unfold execOp
  simp only [ho, resolve, invoke, builtin, Sem.run_bind, Sem.run_pure, Result.andThen_ok, List.map_toArray, List.map_cons, List.map_nil, hx]
  simp [go_sem]
/-- The lists in their order. -/
def lX (a b : Value) (cl cm : Nat → Value) : Nat → Value := fun t => if t = 0 then a else if t = 1 then b else if t % 2 = 0 then cl ((t - 2) / 2) else cm ((t - 3) / 2)
theorem lX_two (a b : Value) (cl cm : Nat → Value) (i : Nat) : lL (lX a b cl cm) (2 + 2 * i) ++ [cl i, cm i] = lL (lX a b cl cm) (2 + 2 * (i + 1)) := by
  rw [show 2 + 2 * (i + 1) = 2 + 2 * i + 1 + 1 by omega]
  simp only [lL, List.append_assoc, List.cons_append, List.nil_append]
  have e1 : lX a b cl cm (2 + 2 * i) = cl i := by
    unfold lX
    rw [if_neg (by omega), if_neg (by omega), if_pos (by omega)]
    congr 1
    omega
  have e2 : lX a b cl cm (2 + 2 * i + 1) = cm i := by
    unfold lX
    rw [if_neg (by omega), if_neg (by omega), if_neg (by omega)]
    congr 1
    omega
  rw [e1, e2]
set_option maxRecDepth 100000 in
set_option maxHeartbeats 4000000 in
theorem keeps29 (c : RX) (V V1 : World) (_F : RF c V V1) (W0 : World) (x : Nat → Value) (u5 u6 nv : Value) (pg pk : Nat) (H0 : RW c V1 W0 x u5 u6 nv pg pk) (cw : Nat → Nat) (MA NW KE KN : Nat) (wr_ cc : Nat → Nat → Nat) (kf : Nat → Nat) (k0 : Value) (hNW : NW ≤ 8)
    (K0 : 0 < c.h → ∃ ug uc, u5 = .slice (some ⟨ug, 0, none⟩) c.h uc ∧ ∀ X, Below W0.heap.size W0 X → X.cell? ⟨ug, 0 + 0, none⟩ = some k0)
    (PY : ∀ X, Below W0.heap.size W0 X → Calls Tryd.prog 10 #[k0, .int .i64 c.ep] X fun e w' => ∃ r, e = .returned (.tuple #[r, .int .i64 (KE : Int)]) ∧ w'.ownsRow X.heap.size 5 1 r KN (bytesL KN kf) ∧ Below X.heap.size X w')
    (aa ba la ma : Option Addr) (ac bc lc mc : Nat) (cl cm : Nat → Value) (b1 b2 b3 b4 : Nat)
    (h : ∀ (a : Act) (W Wl : World) (u : Value) (zs : List (Value × Nat)) , RA c a → LQ W0 Wl MA NW cw wr_ cc (.slice aa MA ac) (.slice ba MA bc) (.slice la NW lc) (.slice ma NW mc) cl cm b1 b2 b3 b4 → Below Wl.heap.size Wl W → W.ownsRow Wl.heap.size 22 1 u (2 + 2 * NW + zs.length) (lL (lX (.slice aa MA ac) (.slice ba MA bc) cl cm) (2 + 2 * NW) ++ zs.map (·.1)) →
      ((zs = [] ∧ True) ∨ ∃ xv yv b5 b6 b7, zs = [(xv, KN), (yv, KN)] ∧ Wl.heap.size ≤ b5 ∧ b5 ≤ b6 ∧ b6 ≤ b7 ∧ b7 ≤ W.heap.size ∧ W.ownsRow b5 5 1 xv KN (bytesL KN kf) ∧ W.ownsRow b6 5 1 yv KN (bytesL KN kf) ∧ (∀ q, xv.ownBlock = some q → q < b6) ∧ (∀ q, yv.ownBlock = some q → q < b7)) →
      a.eval (.tmp 6) = u6 → a.eval (.tmp 10) = nv → a.eval (.tmp 11) = .slice (some ⟨pg, 0, none⟩) (c.n + 2) pk → a.eval (.tmp 12) = .slice aa MA ac → a.eval (.tmp 21) = u → (fromR 39 (Tryd.f7.body.getD .skip)).wp Tryd.prog (bodyPost Tryd.prog Tryd.f7 fun e w' => e = .returned (.bool true) ∧ Below V.heap.size V w') a W)
    (a : Act) (W : World) (A : RA c a) (L : LQ W0 W MA NW cw wr_ cc (.slice aa MA ac) (.slice ba MA bc) (.slice la NW lc) (.slice ma NW mc) cl cm b1 b2 b3 b4) (t5 : a.eval (.tmp 5) = u5) (t6 : a.eval (.tmp 6) = u6) (t10 : a.eval (.tmp 10) = nv) (t11 : a.eval (.tmp 11) = .slice (some ⟨pg, 0, none⟩) (c.n + 2) pk) (t12 : a.eval (.tmp 12) = .slice aa MA ac) (t14 : a.eval (.tmp 14) = .slice ba MA bc) (t17 : a.eval (.tmp 17) = .slice la NW lc) (t19 : a.eval (.tmp 19) = .slice ma NW mc) : (fromR 29 (Tryd.f7.body.getD .skip)).wp Tryd.prog (bodyPost Tryd.prog Tryd.f7 fun e w' => e = .returned (.bool true) ∧ Below V.heap.size V w') a W := by
  obtain ⟨ua, uc, eu⟩ := ownQ_shape H0.B.keys
  rw [eu] at t5
  refine wp_seq ?_
  refine wp_region_sqK 375 [(0, 21)] (fun i_ => match i_ with | 0 => .slice none 0 0 | _ => undef) A.sz (by kernel_rfl) (by decide) (by decide) ?_ ?_
  · intro i_ hi_ a hf hv hn
    match i_, hi_ with
    | 0, _ => exact stepV rfl rfl (execAsgB rfl rfl) ⟨⟨_, rfl, rfl⟩, rfl⟩
    | k_ + 1, h_ => exact absurd h_ (by simp)
  intro a h1 h2 h3 h4
  have t5 := (h3 5 (by decide)).trans t5
  have t6 := (h3 6 (by decide)).trans t6
  have t10 := (h3 10 (by decide)).trans t10
  have t11 := (h3 11 (by decide)).trans t11
  have t12 := (h3 12 (by decide)).trans t12
  have t14 := (h3 14 (by decide)).trans t14
  have t17 := (h3 17 (by decide)).trans t17
  have t19 := (h3 19 (by decide)).trans t19
  have t21 : a.eval (.tmp 21) = .slice none 0 0 := h4 0 _ rfl _ rfl
  have A := A.keep h1 h2 h3 (by decide)
  clear h1 h2 h3 h4
  refine wp_seq ?_
  refine wp_region_sq (σ := Nat × Value) 375 [(0, 169), (1, 170), (2, 171), (3, 172), (4, 173), (5, 21)] (fun j_ s X => Below W.heap.size W X ∧ (match j_ with | 0 => True | 1 => True | 2 => True | 3 => True | 4 => X.heap[s.1]? = some (.cells #[.slice aa MA ac, .slice ba MA bc] 22) | 5 => X.ownsRow W.heap.size 22 1 s.2 2 (lL (lX (.slice aa MA ac) (.slice ba MA bc) cl cm) 2) | _ => X.ownsRow W.heap.size 22 1 s.2 2 (lL (lX (.slice aa MA ac) (.slice ba MA bc) cl cm) 2))) (fun s => fun i_ => match i_ with | 0 => .slice none 0 0 | 1 => .slice aa MA ac | 2 => .slice ba MA bc | 3 => .slice (some ⟨s.1, 0, none⟩) 2 2 | 4 => s.2 | 5 => s.2 | _ => undef) (0, undef) A.sz (by kernel_rfl) (by decide) (by decide) ⟨Below.refl _ _, trivial⟩ ?_ ?_
  · intro i_ hi_ s a X hf hv hn hS
    match i_, hi_ with
    | 0, _ => exact stepV rfl rfl (execMvB rfl ((hn 5 (by omega) _ rfl _ rfl).trans t21)) ⟨s, ⟨_, rfl, rfl⟩, hS, fun _ _ => rfl⟩
    | 1, _ => exact stepV rfl rfl (execMvB rfl ((hf 12 (by decide)).trans t12)) ⟨s, ⟨_, rfl, rfl⟩, hS, fun _ _ => rfl⟩
    | 2, _ => exact stepV rfl rfl (execMvB rfl ((hf 14 (by decide)).trans t14)) ⟨s, ⟨_, rfl, rfl⟩, hS, fun _ _ => rfl⟩
    | 3, _ =>
      refine stepV rfl rfl (execBsL2 rfl (hv 1 (by omega) _ rfl _ rfl) (hv 2 (by omega) _ rfl _ rfl) ⟨_, _, _, rfl⟩ ⟨_, _, _, rfl⟩) ⟨(X.heap.size, s.2), ⟨_, rfl, rfl⟩, ⟨hS.1.trans ((belNew X _).mono hS.1.size), heapNew X _⟩, fun i hi => ?_⟩
      match i, hi with
      | 0, _ => rfl
      | 1, _ => rfl
      | 2, _ => rfl
      | n_ + 3, h_ => omega
    | 4, _ =>
      refine stepAppLs (B := W.heap.size) (n := 0) (xs := []) rfl rfl rfl (hv 0 (by omega) _ rfl _ rfl) (hv 3 (by omega) _ rfl _ rfl) (World.ownsRow_nil _ _ _ _) hS.2 rfl (fun u hu => by simp at hu; rcases hu with rfl | rfl <;> rfl) (by omega) hS.1.size fun v' W' own' gr => ⟨(s.1, v'), ⟨_, rfl, rfl⟩, ⟨hS.1.grown gr hS.1.size (fun k hk => by cases hk), own'⟩, fun i hi => ?_⟩
      match i, hi with
      | 0, _ => rfl
      | 1, _ => rfl
      | 2, _ => rfl
      | 3, _ => rfl
      | n_ + 4, h_ => omega
    | 5, _ => exact stepV rfl rfl (execAsgB rfl (hv 4 (by omega) _ rfl _ rfl)) ⟨s, ⟨_, rfl, rfl⟩, hS, fun _ _ => rfl⟩
    | k_ + 6, h_ => exact absurd h_ (by simp)
  intro s a X h1 h2 h3 h4 hS
  have hS : Below W.heap.size W X ∧ (X.ownsRow W.heap.size 22 1 s.2 2 (lL (lX (.slice aa MA ac) (.slice ba MA bc) cl cm) 2)) := hS
  have t5 := (h3 5 (by decide)).trans t5
  have t6 := (h3 6 (by decide)).trans t6
  have t10 := (h3 10 (by decide)).trans t10
  have t11 := (h3 11 (by decide)).trans t11
  have t12 := (h3 12 (by decide)).trans t12
  have t14 := (h3 14 (by decide)).trans t14
  have t17 := (h3 17 (by decide)).trans t17
  have t19 := (h3 19 (by decide)).trans t19
  have t21 : a.eval (.tmp 21) = s.2 := h4 5 _ rfl _ rfl
  have A := A.keep h1 h2 h3 (by decide)
  clear h1 h2 h3 h4
  obtain ⟨g30, u⟩ := s
  have t21 : a.eval (.tmp 21) = u := t21
  obtain ⟨BW, OU⟩ := hS
  obtain ⟨Wl, hWl⟩ : ∃ Wl, Wl = W := ⟨_, rfl⟩
  rw [← hWl] at BW OU L
  have OU : X.ownsRow Wl.heap.size 22 1 u (2 + 2 * 0) (lL (lX (.slice aa MA ac) (.slice ba MA bc) cl cm) (2 + 2 * 0)) := OU
  clear hWl
  have WL : ∀ lg, la = some ⟨lg, 0, none⟩ → ∀ X, Below Wl.heap.size Wl X → ∀ i, i < NW → X.rangeAt lg (i * 17) (pC (cl i) (wr_ i)).toList := fun lg e X hX i hi => by
    obtain ⟨a1, c1, e1, hr⟩ := (L.on hX).wl.row
    obtain ⟨g, e2, _, _, h3⟩ := hr (by omega)
    injection e1 with e1
    rw [e, e2] at e1
    obtain rfl : lg = g := by injection e1 with e1; injection e1
    exact h3 i hi
  have WM : ∀ mg, ma = some ⟨mg, 0, none⟩ → ∀ X, Below Wl.heap.size Wl X → ∀ i, i < NW → X.rangeAt mg (i * 17) (pC (cm i) (wr_ i)).toList := fun mg e X hX i hi => by
    obtain ⟨a1, c1, e1, hr⟩ := (L.on hX).wm.row
    obtain ⟨g, e2, _, _, h3⟩ := hr (by omega)
    injection e1 with e1
    rw [e, e2] at e1
    obtain rfl : mg = g := by injection e1 with e1; injection e1
    exact h3 i hi
  refine wp_seq ?_
  refine wp_seq ?_
  refine wp_region_sqK 375 [(0, 22)] (fun i_ => match i_ with | 0 => .int .i64 ((0 : Nat) : Int) | _ => undef) A.sz (by kernel_rfl) (by decide) (by decide) ?_ ?_
  · intro i_ hi_ a hf hv hn
    match i_, hi_ with
    | 0, _ => exact stepV rfl rfl (execAsgB rfl rfl) ⟨⟨_, rfl, rfl⟩, rfl⟩
    | k_ + 1, h_ => exact absurd h_ (by simp)
  intro a h1 h2 h3 h4
  have t5 := (h3 5 (by decide)).trans t5
  have t6 := (h3 6 (by decide)).trans t6
  have t10 := (h3 10 (by decide)).trans t10
  have t11 := (h3 11 (by decide)).trans t11
  have t12 := (h3 12 (by decide)).trans t12
  have t14 := (h3 14 (by decide)).trans t14
  have t17 := (h3 17 (by decide)).trans t17
  have t19 := (h3 19 (by decide)).trans t19
  have t21 := (h3 21 (by decide)).trans t21
  have t22 : a.eval (.tmp 22) = .int .i64 ((0 : Nat) : Int) := h4 0 _ rfl _ rfl
  have A := A.keep h1 h2 h3 (by decide)
  clear h1 h2 h3 h4
  refine wp_block ?_
  refine wp_loop (fun a W => ∃ (i : Nat) (u : Value), i ≤ NW ∧ RA c a ∧ a.eval (.tmp 5) = .slice ua c.h uc ∧ a.eval (.tmp 6) = u6 ∧ a.eval (.tmp 10) = nv ∧ a.eval (.tmp 11) = .slice (some ⟨pg, 0, none⟩) (c.n + 2) pk ∧ a.eval (.tmp 12) = .slice aa MA ac ∧ a.eval (.tmp 14) = .slice ba MA bc ∧ a.eval (.tmp 17) = .slice la NW lc ∧ a.eval (.tmp 19) = .slice ma NW mc ∧ a.eval (.tmp 21) = u ∧ a.eval (.tmp 22) = .int .i64 ((i : Nat) : Int) ∧ Below Wl.heap.size Wl W ∧ W.ownsRow Wl.heap.size 22 1 u (2 + 2 * i) (lL (lX (.slice aa MA ac) (.slice ba MA bc) cl cm) (2 + 2 * i))) (fun a _ => NW - (intOf (a.eval (.tmp 22))).toNat) ⟨0, u, by omega, A, t5, t6, t10, t11, t12, t14, t17, t19, t21, t22, BW, OU⟩ ?_
  clear A t5 t6 t10 t11 t12 t14 t17 t19 t21 t22 BW OU a
  rintro a W ⟨i, u, hi, A, t5, t6, t10, t11, t12, t14, t17, t19, t21, t22, BW, OU⟩
  have e22 := t22
  refine wp_seq ?_
  refine wp_seq ?_
  refine wp_region_sqK 375 [(0, 174), (1, 175), (2, 176), (3, 177)] (fun i_ => match i_ with | 0 => .int .i64 ((i : Nat) : Int) | 1 => .slice la NW lc | 2 => .int .i64 ((NW : Nat) : Int) | 3 => .bool (decide (i < NW)) | _ => undef) A.sz (by kernel_rfl) (by decide) (by decide) ?_ ?_
  · intro i_ hi_ a hf hv hn
    match i_, hi_ with
    | 0, _ => exact stepV rfl rfl (execMvB rfl ((hf 22 (by decide)).trans t22)) ⟨⟨_, rfl, rfl⟩, rfl⟩
    | 1, _ => exact stepV rfl rfl (execMvB rfl ((hf 17 (by decide)).trans t17)) ⟨⟨_, rfl, rfl⟩, rfl⟩
    | 2, _ => exact stepV rfl rfl (execLenQ (len := NW) rfl (hv 1 (by omega) _ rfl _ rfl)) ⟨⟨_, rfl, rfl⟩, rfl⟩
    | 3, _ => exact stepV rfl rfl (execLtW (p := i) (q := NW) rfl (hv 0 (by omega) _ rfl _ rfl) (hv 2 (by omega) _ rfl _ rfl)) ⟨⟨_, rfl, rfl⟩, rfl⟩
    | k_ + 4, h_ => exact absurd h_ (by simp)
  intro a h1 h2 h3 h4
  have t5 := (h3 5 (by decide)).trans t5
  have t6 := (h3 6 (by decide)).trans t6
  have t10 := (h3 10 (by decide)).trans t10
  have t11 := (h3 11 (by decide)).trans t11
  have t12 := (h3 12 (by decide)).trans t12
  have t14 := (h3 14 (by decide)).trans t14
  have t17 := (h3 17 (by decide)).trans t17
  have t19 := (h3 19 (by decide)).trans t19
  have t21 := (h3 21 (by decide)).trans t21
  have t22 := (h3 22 (by decide)).trans t22
  have t177 : a.eval (.tmp 177) = .bool (decide (i < NW)) := h4 3 _ rfl _ rfl
  have A := A.keep h1 h2 h3 (by decide)
  clear h1 h2 h3 h4
  by_cases hlt : i < NW
  · rw [decide_eq_true hlt] at t177
    refine wp_cond_true t177 ?_
    refine wp_skip ?_
    clear t177
    obtain ⟨lg, hlg⟩ : ∃ lg, la = some ⟨lg, 0, none⟩ := by
      obtain ⟨a1, c1, e1, hr⟩ := L.wl.row
      obtain ⟨g, e2, _⟩ := hr (by omega)
      injection e1 with e1
      exact ⟨g, e1.trans e2⟩
    obtain ⟨mg, hmg⟩ : ∃ mg, ma = some ⟨mg, 0, none⟩ := by
      obtain ⟨a1, c1, e1, hr⟩ := L.wm.row
      obtain ⟨g, e2, _⟩ := hr (by omega)
      injection e1 with e1
      exact ⟨g, e1.trans e2⟩
    have WL := WL lg hlg
    have WM := WM mg hmg
    have t17' := t17
    have t19' := t19
    rw [hlg] at t17
    rw [hmg] at t19
    have SCL : ∃ g n cp, cl i = .slice g n cp := by obtain ⟨a1, c1, e⟩ := own_shapeJ (L.wl.own i hlt); exact ⟨_, _, _, e⟩
    have SCM : ∃ g n cp, cm i = .slice g n cp := by obtain ⟨a1, c1, e⟩ := own_shapeJ (L.wm.own i hlt); exact ⟨_, _, _, e⟩
    refine wp_seq ?_
    refine wp_block ?_
    refine wp_region_stB (σ := Nat × Value) 375 [(0, 180), (1, 181), (2, 182), (3, 183), (4, 184), (5, 185), (6, 186), (7, 187), (8, 188), (9, 189), (10, 190), (11, 191), (12, 192), (13, 21)] (fun l s X => Below Wl.heap.size Wl X ∧ (l 12 = false → X.ownsRow Wl.heap.size 22 1 u (2 + 2 * i) (lL (lX (.slice aa MA ac) (.slice ba MA bc) cl cm) (2 + 2 * i))) ∧ (l 11 = true → l 12 = false → X.heap[s.1]? = some (.cells #[cl i, cm i] 22)) ∧ (l 12 = true → X.ownsRow Wl.heap.size 22 1 s.2 (2 + 2 * i + 2) (lL (lX (.slice aa MA ac) (.slice ba MA bc) cl cm) (2 + 2 * i) ++ [cl i, cm i]))) (fun s => fun i_ => match i_ with | 0 => u | 1 => .slice (some ⟨lg, 0, none⟩) NW lc | 2 => .int .i64 ((i : Nat) : Int) | 3 => .pointer (some ⟨lg, i * 17, none⟩) | 4 => .pointer (some ⟨lg, i * 17, none⟩) | 5 => cl i | 6 => .slice (some ⟨mg, 0, none⟩) NW mc | 7 => .int .i64 ((i : Nat) : Int) | 8 => .pointer (some ⟨mg, i * 17, none⟩) | 9 => .pointer (some ⟨mg, i * 17, none⟩) | 10 => cm i | 11 => .slice (some ⟨s.1, 0, none⟩) 2 2 | 12 => s.2 | 13 => s.2 | _ => undef) (0, undef) (by kernel_rfl) (by kernel_rfl) A.sz (by kernel_rfl) (by decide) (by decide) ⟨BW.drew, fun _ => (show W.drew.ownsRow _ _ _ _ _ _ from OU), (fun q => by cases q), (fun q => by cases q)⟩ ?_ ?_
    · intro i_ hi_ l s a X hl hf hdep hl2 hcl hno hS
      match i_, hi_ with
      | 0, _ =>
        have n13 : l 13 = false := by
          cases q : l 13 with
          | false => rfl
          | true => exact absurd (hl.symm.trans (hcl 12 _ rfl (hcl 13 _ rfl q 12 rfl) 0 rfl)) (by decide)
        exact stepV rfl rfl (execMvB rfl ((hno 13 _ rfl _ rfl n13).trans t21)) ⟨s, ⟨_, rfl, rfl⟩, ⟨hS.1, fun q => hS.2.1 q, fun q => hS.2.2.1 q, fun q => hS.2.2.2 q⟩, fun _ _ _ => rfl⟩
      | 1, _ => exact stepV rfl rfl (execMvB rfl ((hf 17 (by decide)).trans t17)) ⟨s, ⟨_, rfl, rfl⟩, ⟨hS.1, fun q => hS.2.1 q, fun q => hS.2.2.1 q, fun q => hS.2.2.2 q⟩, fun _ _ _ => rfl⟩
      | 2, _ => exact stepV rfl rfl (execMvB rfl ((hf 22 (by decide)).trans t22)) ⟨s, ⟨_, rfl, rfl⟩, ⟨hS.1, fun q => hS.2.1 q, fun q => hS.2.2.1 q, fun q => hS.2.2.2 q⟩, fun _ _ _ => rfl⟩
      | 3, _ => exact stepV rfl rfl (execIdxP rfl (hdep _ rfl 1 rfl _ rfl _ rfl) (hdep _ rfl 2 rfl _ rfl _ rfl) hlt) ⟨s, ⟨_, rfl, rfl⟩, ⟨hS.1, fun q => hS.2.1 q, fun q => hS.2.2.1 q, fun q => hS.2.2.2 q⟩, fun _ _ _ => rfl⟩
      | 4, _ => exact stepV rfl rfl (execFP0 rfl (hdep _ rfl 3 rfl _ rfl _ rfl)) ⟨s, ⟨_, rfl, rfl⟩, ⟨hS.1, fun q => hS.2.1 q, fun q => hS.2.2.1 q, fun q => hS.2.2.2 q⟩, fun _ _ _ => rfl⟩
      | 5, _ => exact stepV rfl rfl (execLdL rfl (hdep _ rfl 4 rfl _ rfl _ rfl) (range_0 (WL X hS.1 i hlt))) ⟨s, ⟨_, rfl, rfl⟩, ⟨hS.1, fun q => hS.2.1 q, fun q => hS.2.2.1 q, fun q => hS.2.2.2 q⟩, fun _ _ _ => rfl⟩
      | 6, _ => exact stepV rfl rfl (execMvB rfl ((hf 19 (by decide)).trans t19)) ⟨s, ⟨_, rfl, rfl⟩, ⟨hS.1, fun q => hS.2.1 q, fun q => hS.2.2.1 q, fun q => hS.2.2.2 q⟩, fun _ _ _ => rfl⟩
      | 7, _ => exact stepV rfl rfl (execMvB rfl ((hf 22 (by decide)).trans t22)) ⟨s, ⟨_, rfl, rfl⟩, ⟨hS.1, fun q => hS.2.1 q, fun q => hS.2.2.1 q, fun q => hS.2.2.2 q⟩, fun _ _ _ => rfl⟩
      | 8, _ => exact stepV rfl rfl (execIdxP rfl (hdep _ rfl 6 rfl _ rfl _ rfl) (hdep _ rfl 7 rfl _ rfl _ rfl) hlt) ⟨s, ⟨_, rfl, rfl⟩, ⟨hS.1, fun q => hS.2.1 q, fun q => hS.2.2.1 q, fun q => hS.2.2.2 q⟩, fun _ _ _ => rfl⟩
      | 9, _ => exact stepV rfl rfl (execFP0 rfl (hdep _ rfl 8 rfl _ rfl _ rfl)) ⟨s, ⟨_, rfl, rfl⟩, ⟨hS.1, fun q => hS.2.1 q, fun q => hS.2.2.1 q, fun q => hS.2.2.2 q⟩, fun _ _ _ => rfl⟩
      | 10, _ => exact stepV rfl rfl (execLdL rfl (hdep _ rfl 9 rfl _ rfl _ rfl) (range_0 (WM X hS.1 i hlt))) ⟨s, ⟨_, rfl, rfl⟩, ⟨hS.1, fun q => hS.2.1 q, fun q => hS.2.2.1 q, fun q => hS.2.2.2 q⟩, fun _ _ _ => rfl⟩
      | 11, _ =>
        have n12 : l 12 = false := by
          cases q : l 12 with
          | false => rfl
          | true => exact absurd (hl.symm.trans (hcl 12 _ rfl q 11 rfl)) (by decide)
        refine stepV rfl rfl (execBsL2 rfl (hdep _ rfl 5 rfl _ rfl _ rfl) (hdep _ rfl 10 rfl _ rfl _ rfl) SCL SCM) ⟨(X.heap.size, s.2), ⟨_, rfl, rfl⟩, ⟨hS.1.trans ((belNew X _).mono hS.1.size), fun q => ownW_below (hS.2.1 n12) (belNew X _), fun _ _ => heapNew X _, fun q => ?_⟩, fun i hi hli => ?_⟩
        · have q' : l 12 = true := q
          rw [n12] at q'; cases q'
        · match i, hi with
          | 0, _ => rfl
          | 1, _ => rfl
          | 2, _ => rfl
          | 3, _ => rfl
          | 4, _ => rfl
          | 5, _ => rfl
          | 6, _ => rfl
          | 7, _ => rfl
          | 8, _ => rfl
          | 9, _ => rfl
          | 10, _ => rfl
          | 11, _ => exact absurd (hl.symm.trans hli) (by decide)
          | 12, _ => rfl
          | 13, _ => rfl
          | k_ + 14, h_ => exact absurd h_ (by simp)
      | 12, _ =>
        have own := hS.2.1 hl
        refine stepAppLs (ls := #[cl i, cm i]) rfl rfl rfl (hdep _ rfl 0 rfl _ rfl _ rfl) (hdep _ rfl 11 rfl _ rfl _ rfl) own (hS.2.2.1 (hl2 _ rfl 11 rfl) hl) rfl (fun z hz => by
          simp at hz
          obtain ⟨_, _, _, e1⟩ := SCL
          obtain ⟨_, _, _, e2⟩ := SCM
          rcases hz with e | e
          · rw [e, e1]; rfl
          · rw [e, e2]; rfl) (by have := hNW; omega) hS.1.size fun v' W' own' gr => ⟨(s.1, v'), ⟨_, rfl, rfl⟩, ⟨hS.1.grown gr hS.1.size (fun k hk => (own.lt k hk).1), fun q => (by cases q), fun _ q => (by cases q), fun _ => own'⟩, fun i hi hli => ?_⟩
        match i, hi with
        | 0, _ => rfl
        | 1, _ => rfl
        | 2, _ => rfl
        | 3, _ => rfl
        | 4, _ => rfl
        | 5, _ => rfl
        | 6, _ => rfl
        | 7, _ => rfl
        | 8, _ => rfl
        | 9, _ => rfl
        | 10, _ => rfl
        | 11, _ => rfl
        | 12, _ => exact absurd (hl.symm.trans hli) (by decide)
        | 13, _ => exact absurd (hl.symm.trans (hcl 13 _ rfl hli 12 rfl)) (by decide)
        | k_ + 14, h_ => exact absurd h_ (by simp)
      | 13, _ => exact stepV rfl rfl (execAsgB rfl (hdep _ rfl 12 rfl _ rfl _ rfl)) ⟨s, ⟨_, rfl, rfl⟩, ⟨hS.1, fun q => hS.2.1 q, fun q => hS.2.2.1 q, fun q => hS.2.2.2 q⟩, fun _ _ _ => rfl⟩
      | k_ + 14, h_ => exact absurd h_ (by simp)
    intro l s a X h1 h2 h3 h4 hall hS
    have t5 := (h3 5 (by decide)).trans t5
    have t6 := (h3 6 (by decide)).trans t6
    have t10 := (h3 10 (by decide)).trans t10
    have t11 := (h3 11 (by decide)).trans t11
    have t12 := (h3 12 (by decide)).trans t12
    have t14 := (h3 14 (by decide)).trans t14
    have t17 := (h3 17 (by decide)).trans t17'
    have t19 := (h3 19 (by decide)).trans t19'
    have t22 := (h3 22 (by decide)).trans t22
    have t21 : a.eval (.tmp 21) = s.2 := h4 (13, 21) (by decide)
    have A := A.keep h1 h2 h3 (by decide)
    have OU := hS.2.2.2 (hall 12 (by simp))
    rw [lX_two] at OU
    have BW := hS.1
    clear h1 h2 h3 h4 hall hS t17' t19'
    obtain ⟨g34, u⟩ := s
    refine wp_region_sqK 375 [(0, 178), (1, 179), (2, 22)] (fun i_ => match i_ with | 0 => .int .i64 ((i : Nat) : Int) | 1 => .int .i64 ((i + 1 : Nat) : Int) | 2 => .int .i64 ((i + 1 : Nat) : Int) | _ => undef) A.sz (by kernel_rfl) (by decide) (by decide) ?_ ?_
    · intro i_ hi_ a hf hv hn
      match i_, hi_ with
      | 0, _ => exact stepV rfl rfl (execMvB rfl ((hn 2 (by omega) _ rfl _ rfl).trans t22)) ⟨⟨_, rfl, rfl⟩, rfl⟩
      | 1, _ => exact stepV rfl rfl (execAd8 (p := i) (q := 1) rfl (hv 0 (by omega) _ rfl _ rfl) rfl (by have := hNW; omega)) ⟨⟨_, rfl, rfl⟩, rfl⟩
      | 2, _ => exact stepV rfl rfl (execAsgB rfl (hv 1 (by omega) _ rfl _ rfl)) ⟨⟨_, rfl, rfl⟩, rfl⟩
      | k_ + 3, h_ => exact absurd h_ (by simp)
    intro a h1 h2 h3 h4
    have t5 := (h3 5 (by decide)).trans t5
    have t6 := (h3 6 (by decide)).trans t6
    have t10 := (h3 10 (by decide)).trans t10
    have t11 := (h3 11 (by decide)).trans t11
    have t12 := (h3 12 (by decide)).trans t12
    have t14 := (h3 14 (by decide)).trans t14
    have t17 := (h3 17 (by decide)).trans t17
    have t19 := (h3 19 (by decide)).trans t19
    have t21 := (h3 21 (by decide)).trans t21
    have t22 : a.eval (.tmp 22) = .int .i64 ((i + 1 : Nat) : Int) := h4 2 _ rfl _ rfl
    have A := A.keep h1 h2 h3 (by decide)
    clear h1 h2 h3 h4
    exact ⟨⟨i + 1, u, hlt, A, t5, t6, t10, t11, t12, t14, t17, t19, t21, t22, BW, OU⟩, by show NW - (intOf (a.eval (.tmp 22))).toNat < NW - (intOf (Act.eval _ (.tmp 22))).toNat; rw [t22, e22]; show NW - (i + 1) < NW - i; omega⟩
  · rw [decide_eq_false hlt] at t177
    refine wp_cond_false t177 ?_
    refine wp_exit ?_
    first | refine exit_in ?_ | refine exit_then (exit_in ?_) | refine exit_then (exit_then (exit_in ?_))
    obtain rfl : i = NW := by omega
    clear t177 t22 e22
    refine wp_seq ?_
    refine wp_seq ?_
    refine wp_region_sqK 375 [(0, 193), (1, 194), (2, 195)] (fun i_ => match i_ with | 0 => .slice ua c.h uc | 1 => .int .i64 ((c.h : Nat) : Int) | 2 => .bool (decide (0 < c.h)) | _ => undef) A.sz (by kernel_rfl) (by decide) (by decide) ?_ ?_
    · intro i_ hi_ a hf hv hn
      match i_, hi_ with
      | 0, _ => exact stepV rfl rfl (execMvB rfl ((hf 5 (by decide)).trans t5)) ⟨⟨_, rfl, rfl⟩, rfl⟩
      | 1, _ => exact stepV rfl rfl (execLenL (len := c.h) rfl (hv 0 (by omega) _ rfl _ rfl)) ⟨⟨_, rfl, rfl⟩, rfl⟩
      | 2, _ => exact stepV rfl rfl (execGt8 (p := c.h) (q := 0) rfl (hv 1 (by omega) _ rfl _ rfl)) ⟨⟨_, rfl, rfl⟩, rfl⟩
      | k_ + 3, h_ => exact absurd h_ (by simp)
    intro a h1 h2 h3 h4
    have t5 := (h3 5 (by decide)).trans t5
    have t6 := (h3 6 (by decide)).trans t6
    have t10 := (h3 10 (by decide)).trans t10
    have t11 := (h3 11 (by decide)).trans t11
    have t12 := (h3 12 (by decide)).trans t12
    have t14 := (h3 14 (by decide)).trans t14
    have t17 := (h3 17 (by decide)).trans t17
    have t19 := (h3 19 (by decide)).trans t19
    have t21 := (h3 21 (by decide)).trans t21
    have t195 : a.eval (.tmp 195) = .bool (decide (0 < c.h)) := h4 2 _ rfl _ rfl
    have A := A.keep h1 h2 h3 (by decide)
    clear h1 h2 h3 h4
    by_cases hpos : 0 < c.h
    · rw [decide_eq_true hpos] at t195
      refine wp_cond_true t195 ?_
      clear t195
      obtain ⟨ug, uc2, eu2, K0⟩ := K0 hpos
      have e5 : Value.slice ua c.h uc = .slice (some ⟨ug, 0, none⟩) c.h uc2 := eu.symm.trans eu2
      rw [e5] at t5
      have belW : Below W0.heap.size W0 W := (L.on BW).bel
      obtain ⟨Wx, hWx⟩ : ∃ Wx, Wx = W := ⟨_, rfl⟩
      have le5 : Wl.heap.size ≤ W.heap.size := BW.size
      refine wp_seq ?_
      refine wp_region_sq (σ := Value) 375 [(0, 197), (1, 198), (2, 199), (3, 200), (4, 201), (5, 196), (6, 202), (7, 203), (8, 23), (9, 24)] (fun j_ s X => Below W.heap.size W X ∧ (match j_ with | 0 => True | 1 => True | 2 => True | 3 => True | 4 => True | 5 => X.ownsRow W.heap.size 5 1 s KN (bytesL KN kf) | 6 => X.ownsRow W.heap.size 5 1 s KN (bytesL KN kf) | 7 => X.ownsRow W.heap.size 5 1 s KN (bytesL KN kf) | 8 => X.ownsRow W.heap.size 5 1 s KN (bytesL KN kf) | 9 => X.ownsRow W.heap.size 5 1 s KN (bytesL KN kf) | _ => X.ownsRow W.heap.size 5 1 s KN (bytesL KN kf))) (fun s => fun i_ => match i_ with | 0 => .slice (some ⟨ug, 0, none⟩) c.h uc2 | 1 => .pointer (some ⟨ug, 0 + 0, none⟩) | 2 => k0 | 3 => .int .i64 c.ep | 4 => .tuple #[s, .int .i64 (KE : Int)] | 5 => .tuple #[s, .int .i64 (KE : Int)] | 6 => s | 7 => .int .i64 (KE : Int) | 8 => s | 9 => .int .i64 (KE : Int) | _ => undef) undef A.sz (by kernel_rfl) (by decide) (by decide) ⟨Below.refl _ _, trivial⟩ ?_ ?_
      · intro i_ hi_ s a X hf hv hn hS
        match i_, hi_ with
        | 0, _ => exact stepV rfl rfl (execMvB rfl ((hf 5 (by decide)).trans t5)) ⟨s, ⟨_, rfl, rfl⟩, hS, fun _ _ => rfl⟩
        | 1, _ => exact stepV rfl rfl (execIdxL (k := 0) rfl (hv 0 (by omega) _ rfl _ rfl) rfl (by exact hpos)) ⟨s, ⟨_, rfl, rfl⟩, hS, fun _ _ => rfl⟩
        | 2, _ => exact stepV rfl rfl (execLdL rfl (hv 1 (by omega) _ rfl _ rfl) (K0 X (belW.trans (hS.1.mono belW.size)))) ⟨s, ⟨_, rfl, rfl⟩, hS, fun _ _ => rfl⟩
        | 3, _ => exact stepV rfl rfl (execMvB rfl ((hf 1 (by decide)).trans A.t1)) ⟨s, ⟨_, rfl, rfl⟩, hS, fun _ _ => rfl⟩
        | 4, _ =>
          refine stepC rfl rfl (execCall2 Tryd.func10 (by kernel_rfl) (by kernel_rfl) rfl (hv 2 (by omega) _ rfl _ rfl) (hv 3 (by omega) _ rfl _ rfl)) (PY X (belW.trans (hS.1.mono belW.size))) fun e w' hh => ?_
          obtain ⟨r', e1, own', bw⟩ := hh
          refine ⟨_, e1, r', ⟨_, rfl, rfl⟩, ⟨hS.1.trans (bw.mono hS.1.size), own_base own' hS.1.size⟩, fun i hi => ?_⟩
          match i, hi with
          | 0, _ => rfl
          | 1, _ => rfl
          | 2, _ => rfl
          | 3, _ => rfl
          | n_ + 4, h_ => omega
        | 5, _ => exact stepV rfl rfl (execMvB rfl (hv 4 (by omega) _ rfl _ rfl)) ⟨s, ⟨_, rfl, rfl⟩, hS, fun _ _ => rfl⟩
        | 6, _ => exact stepV rfl rfl (execExtT rfl (hv 5 (by omega) _ rfl _ rfl) rfl) ⟨s, ⟨_, rfl, rfl⟩, hS, fun _ _ => rfl⟩
        | 7, _ => exact stepV rfl rfl (execExtT rfl (hv 5 (by omega) _ rfl _ rfl) rfl) ⟨s, ⟨_, rfl, rfl⟩, hS, fun _ _ => rfl⟩
        | 8, _ => exact stepV rfl rfl (execAsgB rfl (hv 6 (by omega) _ rfl _ rfl)) ⟨s, ⟨_, rfl, rfl⟩, hS, fun _ _ => rfl⟩
        | 9, _ => exact stepV rfl rfl (execAsgB rfl (hv 7 (by omega) _ rfl _ rfl)) ⟨s, ⟨_, rfl, rfl⟩, hS, fun _ _ => rfl⟩
        | k_ + 10, h_ => exact absurd h_ (by simp)
      intro s a X h1 h2 h3 h4 hS
      have hS : Below W.heap.size W X ∧ (X.ownsRow W.heap.size 5 1 s KN (bytesL KN kf)) := hS
      have t5 := (h3 5 (by decide)).trans t5
      have t6 := (h3 6 (by decide)).trans t6
      have t10 := (h3 10 (by decide)).trans t10
      have t11 := (h3 11 (by decide)).trans t11
      have t12 := (h3 12 (by decide)).trans t12
      have t14 := (h3 14 (by decide)).trans t14
      have t17 := (h3 17 (by decide)).trans t17
      have t19 := (h3 19 (by decide)).trans t19
      have t21 := (h3 21 (by decide)).trans t21
      have t23 : a.eval (.tmp 23) = s := h4 8 _ rfl _ rfl
      have A := A.keep h1 h2 h3 (by decide)
      clear h1 h2 h3 h4
      obtain ⟨bX, ownX⟩ := hS
      obtain ⟨xa, xc, rfl⟩ := own_shapeJ ownX
      obtain ⟨b5, hb5⟩ : ∃ b5, b5 = W.heap.size := ⟨_, rfl⟩
      rw [← hb5] at ownX le5
      have OU := ownW_below OU bX
      have BW := BW.trans (bX.mono BW.size)
      have belW := belW.trans (bX.mono belW.size)
      obtain ⟨b6, hb6⟩ : ∃ b6, b6 = X.heap.size := ⟨_, rfl⟩
      have le6 : b5 ≤ b6 := by rw [hb5, hb6]; exact bX.size
      have hX6 : ∀ q, (Value.slice xa KN xc).ownBlock = some q → q < b6 := fun q hq => by rw [hb6]; exact (ownX.lt q hq).2
      clear bX hb5 hWx
      obtain ⟨W, hW⟩ : ∃ W, W = X := ⟨_, rfl⟩
      rw [← hW] at OU BW belW ownX hb6 ⊢
      clear hW
      refine wp_seq ?_
      refine wp_region_sq (σ := Value) 375 [(0, 205), (1, 206), (2, 207), (3, 208), (4, 209), (5, 204), (6, 210), (7, 211), (8, 25), (9, 26)] (fun j_ s X => Below W.heap.size W X ∧ (match j_ with | 0 => True | 1 => True | 2 => True | 3 => True | 4 => True | 5 => X.ownsRow W.heap.size 5 1 s KN (bytesL KN kf) | 6 => X.ownsRow W.heap.size 5 1 s KN (bytesL KN kf) | 7 => X.ownsRow W.heap.size 5 1 s KN (bytesL KN kf) | 8 => X.ownsRow W.heap.size 5 1 s KN (bytesL KN kf) | 9 => X.ownsRow W.heap.size 5 1 s KN (bytesL KN kf) | _ => X.ownsRow W.heap.size 5 1 s KN (bytesL KN kf))) (fun s => fun i_ => match i_ with | 0 => .slice (some ⟨ug, 0, none⟩) c.h uc2 | 1 => .pointer (some ⟨ug, 0 + 0, none⟩) | 2 => k0 | 3 => .int .i64 c.ep | 4 => .tuple #[s, .int .i64 (KE : Int)] | 5 => .tuple #[s, .int .i64 (KE : Int)] | 6 => s | 7 => .int .i64 (KE : Int) | 8 => s | 9 => .int .i64 (KE : Int) | _ => undef) undef A.sz (by kernel_rfl) (by decide) (by decide) ⟨Below.refl _ _, trivial⟩ ?_ ?_
      · intro i_ hi_ s a X hf hv hn hS
        match i_, hi_ with
        | 0, _ => exact stepV rfl rfl (execMvB rfl ((hf 5 (by decide)).trans t5)) ⟨s, ⟨_, rfl, rfl⟩, hS, fun _ _ => rfl⟩
        | 1, _ => exact stepV rfl rfl (execIdxL (k := 0) rfl (hv 0 (by omega) _ rfl _ rfl) rfl (by exact hpos)) ⟨s, ⟨_, rfl, rfl⟩, hS, fun _ _ => rfl⟩
        | 2, _ => exact stepV rfl rfl (execLdL rfl (hv 1 (by omega) _ rfl _ rfl) (K0 X (belW.trans (hS.1.mono belW.size)))) ⟨s, ⟨_, rfl, rfl⟩, hS, fun _ _ => rfl⟩
        | 3, _ => exact stepV rfl rfl (execMvB rfl ((hf 1 (by decide)).trans A.t1)) ⟨s, ⟨_, rfl, rfl⟩, hS, fun _ _ => rfl⟩
        | 4, _ =>
          refine stepC rfl rfl (execCall2 Tryd.func10 (by kernel_rfl) (by kernel_rfl) rfl (hv 2 (by omega) _ rfl _ rfl) (hv 3 (by omega) _ rfl _ rfl)) (PY X (belW.trans (hS.1.mono belW.size))) fun e w' hh => ?_
          obtain ⟨r', e1, own', bw⟩ := hh
          refine ⟨_, e1, r', ⟨_, rfl, rfl⟩, ⟨hS.1.trans (bw.mono hS.1.size), own_base own' hS.1.size⟩, fun i hi => ?_⟩
          match i, hi with
          | 0, _ => rfl
          | 1, _ => rfl
          | 2, _ => rfl
          | 3, _ => rfl
          | n_ + 4, h_ => omega
        | 5, _ => exact stepV rfl rfl (execMvB rfl (hv 4 (by omega) _ rfl _ rfl)) ⟨s, ⟨_, rfl, rfl⟩, hS, fun _ _ => rfl⟩
        | 6, _ => exact stepV rfl rfl (execExtT rfl (hv 5 (by omega) _ rfl _ rfl) rfl) ⟨s, ⟨_, rfl, rfl⟩, hS, fun _ _ => rfl⟩
        | 7, _ => exact stepV rfl rfl (execExtT rfl (hv 5 (by omega) _ rfl _ rfl) rfl) ⟨s, ⟨_, rfl, rfl⟩, hS, fun _ _ => rfl⟩
        | 8, _ => exact stepV rfl rfl (execAsgB rfl (hv 6 (by omega) _ rfl _ rfl)) ⟨s, ⟨_, rfl, rfl⟩, hS, fun _ _ => rfl⟩
        | 9, _ => exact stepV rfl rfl (execAsgB rfl (hv 7 (by omega) _ rfl _ rfl)) ⟨s, ⟨_, rfl, rfl⟩, hS, fun _ _ => rfl⟩
        | k_ + 10, h_ => exact absurd h_ (by simp)
      intro s a X h1 h2 h3 h4 hS
      have hS : Below W.heap.size W X ∧ (X.ownsRow W.heap.size 5 1 s KN (bytesL KN kf)) := hS
      have t5 := (h3 5 (by decide)).trans t5
      have t6 := (h3 6 (by decide)).trans t6
      have t10 := (h3 10 (by decide)).trans t10
      have t11 := (h3 11 (by decide)).trans t11
      have t12 := (h3 12 (by decide)).trans t12
      have t14 := (h3 14 (by decide)).trans t14
      have t17 := (h3 17 (by decide)).trans t17
      have t19 := (h3 19 (by decide)).trans t19
      have t21 := (h3 21 (by decide)).trans t21
      have t23 := (h3 23 (by decide)).trans t23
      have t25 : a.eval (.tmp 25) = s := h4 8 _ rfl _ rfl
      have A := A.keep h1 h2 h3 (by decide)
      clear h1 h2 h3 h4
      obtain ⟨bX, ownY⟩ := hS
      obtain ⟨ya, yc, rfl⟩ := own_shapeJ ownY
      rw [← hb6] at ownY
      have OU := ownW_below OU bX
      have BW := BW.trans (bX.mono BW.size)
      have ownX := ownsRow_below ownX bX
      obtain ⟨b7, hb7⟩ : ∃ b7, b7 = X.heap.size := ⟨_, rfl⟩
      have le7 : b6 ≤ b7 := by rw [hb6, hb7]; exact bX.size
      have hY7 : ∀ q, (Value.slice ya KN yc).ownBlock = some q → q < b7 := fun q hq => by rw [hb7]; exact (ownY.lt q hq).2
      clear bX hb6 belW
      obtain ⟨W, hW⟩ : ∃ W, W = X := ⟨_, rfl⟩
      rw [← hW] at OU BW ownX ownY hb7 ⊢
      clear hW
      refine wp_region_sq (σ := Nat × Value) 375 [(0, 212), (1, 213), (2, 214), (3, 215), (4, 216), (5, 21)] (fun j_ s X => True ∧ (match j_ with | 0 => Below Wl.heap.size Wl X ∧ (X.ownsRow b5 5 1 (.slice xa KN xc) KN (bytesL KN kf) ∧ X.ownsRow b6 5 1 (.slice ya KN yc) KN (bytesL KN kf) ∧ b7 ≤ X.heap.size) ∧ X.ownsRow Wl.heap.size 22 1 u (2 + 2 * i) (lL (lX (.slice aa MA ac) (.slice ba MA bc) cl cm) (2 + 2 * i)) | 1 => Below Wl.heap.size Wl X ∧ (X.ownsRow b5 5 1 (.slice xa KN xc) KN (bytesL KN kf) ∧ X.ownsRow b6 5 1 (.slice ya KN yc) KN (bytesL KN kf) ∧ b7 ≤ X.heap.size) ∧ X.ownsRow Wl.heap.size 22 1 u (2 + 2 * i) (lL (lX (.slice aa MA ac) (.slice ba MA bc) cl cm) (2 + 2 * i)) | 2 => Below Wl.heap.size Wl X ∧ (X.ownsRow b5 5 1 (.slice xa KN xc) KN (bytesL KN kf) ∧ X.ownsRow b6 5 1 (.slice ya KN yc) KN (bytesL KN kf) ∧ b7 ≤ X.heap.size) ∧ X.ownsRow Wl.heap.size 22 1 u (2 + 2 * i) (lL (lX (.slice aa MA ac) (.slice ba MA bc) cl cm) (2 + 2 * i)) | 3 => Below Wl.heap.size Wl X ∧ (X.ownsRow b5 5 1 (.slice xa KN xc) KN (bytesL KN kf) ∧ X.ownsRow b6 5 1 (.slice ya KN yc) KN (bytesL KN kf) ∧ b7 ≤ X.heap.size) ∧ X.ownsRow Wl.heap.size 22 1 u (2 + 2 * i) (lL (lX (.slice aa MA ac) (.slice ba MA bc) cl cm) (2 + 2 * i)) | 4 => Below Wl.heap.size Wl X ∧ (X.ownsRow b5 5 1 (.slice xa KN xc) KN (bytesL KN kf) ∧ X.ownsRow b6 5 1 (.slice ya KN yc) KN (bytesL KN kf) ∧ b7 ≤ X.heap.size) ∧ X.ownsRow Wl.heap.size 22 1 u (2 + 2 * i) (lL (lX (.slice aa MA ac) (.slice ba MA bc) cl cm) (2 + 2 * i)) ∧ X.heap[s.1]? = some (.cells #[.slice xa KN xc, .slice ya KN yc] 22) | 5 => Below Wl.heap.size Wl X ∧ (X.ownsRow b5 5 1 (.slice xa KN xc) KN (bytesL KN kf) ∧ X.ownsRow b6 5 1 (.slice ya KN yc) KN (bytesL KN kf) ∧ b7 ≤ X.heap.size) ∧ X.ownsRow Wl.heap.size 22 1 s.2 (2 + 2 * i + 2) (lL (lX (.slice aa MA ac) (.slice ba MA bc) cl cm) (2 + 2 * i) ++ [.slice xa KN xc, .slice ya KN yc]) | _ => Below Wl.heap.size Wl X ∧ (X.ownsRow b5 5 1 (.slice xa KN xc) KN (bytesL KN kf) ∧ X.ownsRow b6 5 1 (.slice ya KN yc) KN (bytesL KN kf) ∧ b7 ≤ X.heap.size) ∧ X.ownsRow Wl.heap.size 22 1 s.2 (2 + 2 * i + 2) (lL (lX (.slice aa MA ac) (.slice ba MA bc) cl cm) (2 + 2 * i) ++ [.slice xa KN xc, .slice ya KN yc]))) (fun s => fun i_ => match i_ with | 0 => u | 1 => .slice xa KN xc | 2 => .slice ya KN yc | 3 => .slice (some ⟨s.1, 0, none⟩) 2 2 | 4 => s.2 | 5 => s.2 | _ => undef) (0, undef) A.sz (by kernel_rfl) (by decide) (by decide) ⟨trivial, BW, ⟨ownX, ownY, by rw [hb7]; exact Nat.le_refl _⟩, OU⟩ ?_ ?_
      · intro i_ hi_ s a X hf hv hn hS
        match i_, hi_ with
        | 0, _ => exact stepV rfl rfl (execMvB rfl ((hn 5 (by omega) _ rfl _ rfl).trans t21)) ⟨s, ⟨_, rfl, rfl⟩, hS, fun _ _ => rfl⟩
        | 1, _ => exact stepV rfl rfl (execMvB rfl ((hf 23 (by decide)).trans t23)) ⟨s, ⟨_, rfl, rfl⟩, hS, fun _ _ => rfl⟩
        | 2, _ => exact stepV rfl rfl (execMvB rfl ((hf 25 (by decide)).trans t25)) ⟨s, ⟨_, rfl, rfl⟩, hS, fun _ _ => rfl⟩
        | 3, _ =>
          refine stepV rfl rfl (execBsL2 rfl (hv 1 (by omega) _ rfl _ rfl) (hv 2 (by omega) _ rfl _ rfl) ⟨_, _, _, rfl⟩ ⟨_, _, _, rfl⟩) ⟨(X.heap.size, s.2), ⟨_, rfl, rfl⟩, ⟨trivial, hS.2.1.trans ((belNew X _).mono hS.2.1.size), ⟨ownsRow_below hS.2.2.1.1 (belNew X _), ownsRow_below hS.2.2.1.2.1 (belNew X _), Nat.le_trans hS.2.2.1.2.2 (belNew X _).size⟩, ownW_below hS.2.2.2 (belNew X _), heapNew X _⟩, fun i hi => ?_⟩
          match i, hi with
          | 0, _ => rfl
          | 1, _ => rfl
          | 2, _ => rfl
          | n_ + 3, h_ => omega
        | 4, _ =>
          refine stepAppLs (ls := #[.slice xa KN xc, .slice ya KN yc]) rfl rfl rfl (hv 0 (by omega) _ rfl _ rfl) (hv 3 (by omega) _ rfl _ rfl) hS.2.2.2.1 hS.2.2.2.2 rfl (fun z hz => by simp at hz; rcases hz with e | e <;> (rw [e]; rfl)) (by have := hi; omega) hS.2.1.size fun v' W' own' gr => ⟨(s.1, v'), ⟨_, rfl, rfl⟩, ⟨trivial, hS.2.1.grown gr hS.2.1.size (fun k hk => (hS.2.2.2.1.lt k hk).1), ⟨own5_grown hS.2.2.1.1 hS.2.2.2.1 (by decide) gr, own5_grown hS.2.2.1.2.1 hS.2.2.2.1 (by decide) gr, Nat.le_trans hS.2.2.1.2.2 gr.size⟩, own'⟩, fun i hi => ?_⟩
          match i, hi with
          | 0, _ => rfl
          | 1, _ => rfl
          | 2, _ => rfl
          | 3, _ => rfl
          | n_ + 4, h_ => omega
        | 5, _ => exact stepV rfl rfl (execAsgB rfl (hv 4 (by omega) _ rfl _ rfl)) ⟨s, ⟨_, rfl, rfl⟩, hS, fun _ _ => rfl⟩
        | k_ + 6, h_ => exact absurd h_ (by simp)
      intro s a X h1 h2 h3 h4 hS
      have hS : True ∧ Below Wl.heap.size Wl X ∧ (X.ownsRow b5 5 1 (.slice xa KN xc) KN (bytesL KN kf) ∧ X.ownsRow b6 5 1 (.slice ya KN yc) KN (bytesL KN kf) ∧ b7 ≤ X.heap.size) ∧ X.ownsRow Wl.heap.size 22 1 s.2 (2 + 2 * i + 2) (lL (lX (.slice aa MA ac) (.slice ba MA bc) cl cm) (2 + 2 * i) ++ [.slice xa KN xc, .slice ya KN yc]) := hS
      have t5 := (h3 5 (by decide)).trans t5
      have t6 := (h3 6 (by decide)).trans t6
      have t10 := (h3 10 (by decide)).trans t10
      have t11 := (h3 11 (by decide)).trans t11
      have t12 := (h3 12 (by decide)).trans t12
      have t14 := (h3 14 (by decide)).trans t14
      have t17 := (h3 17 (by decide)).trans t17
      have t19 := (h3 19 (by decide)).trans t19
      have t21 : a.eval (.tmp 21) = s.2 := h4 5 _ rfl _ rfl
      have A := A.keep h1 h2 h3 (by decide)
      clear h1 h2 h3 h4
      obtain ⟨g38, u⟩ := s
      have t21 : a.eval (.tmp 21) = u := t21
      obtain ⟨_, BX, ⟨ownX, ownY, le8⟩, OX⟩ := hS
      have OX : X.ownsRow Wl.heap.size 22 1 u (2 + 2 * i + 2) (lL (lX (.slice aa MA ac) (.slice ba MA bc) cl cm) (2 + 2 * i) ++ [.slice xa KN xc, .slice ya KN yc]) := OX
      exact h a X Wl u [(.slice xa KN xc, KN), (.slice ya KN yc, KN)] A L BX OX (.inr ⟨.slice xa KN xc, .slice ya KN yc, b5, b6, b7, rfl, le5, le6, le7, le8, ownX, ownY, hX6, hY7⟩) t6 t10 t11 t12 t21
    · rw [decide_eq_false hpos] at t195
      refine wp_cond_false t195 ?_
      refine wp_skip ?_
      exact h a W Wl u [] A L BW (by simpa using OU) (.inl ⟨rfl, trivial⟩) t6 t10 t11 t12 t21
end Go.Proofs.YtcffmmeafnapiaaDoor.Rou
