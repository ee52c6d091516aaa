import Derived.Test.YthiakjmjpchckaaP9d
namespace Go.Proofs.Ythiakjmjpchckaa.Prm
open Go.RowKit Gf8 Aes By8 Cel Cf Tap Drw
/- Stage 11's reference: find, Rank. Written by tools/mkP9e.py. -/

theorem execEqIgt {o : Oper} {a : Act} {w : World} {x y : Operand} {p q : Int} (ho : o.op = .binOp .eql 3 x y 3) (hx : a.eval x = .int .i64 p) (hy : a.eval y = .int .i64 q) (h : p = q) : (execOp a.eval o).run Try.prog w = .ok (.value (.bool true)) w := by
  unfold execOp
  simp only [ho, hx, hy]
  simp [go_sem, h]
theorem execEqIgf {o : Oper} {a : Act} {w : World} {x y : Operand} {p q : Int} (ho : o.op = .binOp .eql 3 x y 3) (hx : a.eval x = .int .i64 p) (hy : a.eval y = .int .i64 q) (h : ¬ p = q) : (execOp a.eval o).run Try.prog w = .ok (.value (.bool false)) w := by
  unfold execOp
  simp only [ho, hx, hy]
  simp [go_sem, h]
theorem execSlLg {o : Oper} {a : Act} {w : World} {x l : Operand} {ty : TypeId} {v vl r : Value} (ho : o.op = .slice ty x (some l) none none) (hx : a.eval x = v) (hl : a.eval l = vl)
    (hr : (Instr.sliceAt ty v (some vl) none none).run Try.prog w = .ok r w) : (execOp a.eval o).run Try.prog w = .ok (.value r) w := by
  unfold execOp
  simp only [ho, hx, hl, Option.map_some, Option.map_none, Sem.run_bind, hr, Result.andThen_ok, Sem.run_pure]
theorem sl_lIg (g len cap l : Nat) (h1 : l ≤ len) (W : World) : (Instr.sliceAt 22 (.slice (some ⟨g, 0, none⟩) len cap) (some (.int .i64 (l : Int))) none none).run Try.prog W = .ok (sliced (some ⟨g, 0, none⟩) l len cap 1) W := by
  have e1 : (l : Int) ≤ len := by omega
  obtain ⟨i, i1, _, i3, _⟩ := infoI
  simp [Instr.sliceAt, Instr.slice, run_underlying Try.underlying22, Instr.sliceBounds, run_sliceBound, sliced, h1, sizeOf, typeInfo, i1, i3]
theorem sl_lI (g len cap l : Nat) (h1 : l < len) (W : World) : (Instr.sliceAt 22 (.slice (some ⟨g, 0, none⟩) len cap) (some (.int .i64 ((l + 1 : Nat) : Int))) none none).run Try.prog W = .ok (sliced (some ⟨g, 0, none⟩) (l + 1) len cap 1) W := sl_lIg g len cap (l + 1) h1 W
theorem sl_no {A : Addr} {l h m x y : Nat} (e : sliced (some A) l h m 1 = .slice none x y) : y = 0 := by
  unfold sliced at e
  by_cases q : m = l
  · rw [if_pos q] at e; cases e
  · rw [if_neg q] at e; cases e
theorem SliceI.sub {w : World} {a : Option Addr} {len cap : Nat} {p : Nat → Int} (hv : SliceI w (.slice a len cap) len p) (l h : Nat) (h1 : l ≤ h) (h2 : h ≤ len) :
    SliceI w (sliced a l h cap 1) (h - l) (fun j => p (l + j)) := by
  obtain ⟨⟨a', cap', e, e1, e2, e3⟩, hp⟩ := hv
  obtain ⟨rfl, _, rfl⟩ : a = a' ∧ len = len ∧ cap = cap' := by
    injection e with x y z
    exact ⟨x, rfl, z⟩
  refine ⟨⟨_, cap - l, rfl, by omega, by omega, fun h0 => ?_⟩, fun j hj => hp (l + j) (by omega)⟩
  obtain ⟨b, off, rfl, hb, hc⟩ := e3 (by omega)
  rw [if_neg (by omega)]
  refine ⟨b, off + l, ?_, hb, fun j hj => ?_⟩
  · simp [Addr.add]
  · rw [Nat.add_assoc]; exact hc (l + j) (by omega)
/-- Two rows of one's own, apart. -/
structure Two (V W : World) (u : Value) (nu : Nat) (fu : Nat → Int) (lv : Value) (nl : Nat) (fl : Nat → Int) : Prop where
  ru : W.ownsRow V.heap.size 3 1 u nu (intsL nu fu)
  rl : W.ownsRow V.heap.size 3 1 lv nl (intsL nl fl)
  ap : ∀ k, u.ownBlock = some k → lv.ownBlock ≠ some k
section
variable {V W W' : World} {u lv : Value} {nu nl : Nat} {fu fl : Nat → Int}
theorem Two.on (h : Two V W u nu fu lv nl fl) (b : Below W.heap.size W W') : Two V W' u nu fu lv nl fl := ⟨ownD_below h.ru b, ownD_below h.rl b, h.ap⟩
theorem Two.over {C m : Nat} {v2 : Value} {ys : List Value} (h : Two V W u nu fu lv nl fl) (hu : ∀ k, u.ownBlock = some k → k < C) (hl : ∀ k, lv.ownBlock = some k → k < C) (h2 : W.ownsRow C 3 1 v2 m ys) (gr : W.grownBy W' v2.ownBlock) : Two V W' u nu fu lv nl fl :=
  ⟨own_overB h.ru hu h2 gr, own_overB h.rl hl h2 gr, h.ap⟩
theorem Two.new {C m nl' : Nat} {v' : Value} {f' fl' : Nat → Int} (h : Two V W u nu fu lv nl fl) (hu : ∀ k, u.ownBlock = some k → k < C) (own : W.ownsRow C 3 1 v' m (intsL m f')) (hC : V.heap.size ≤ C) (em : m = nl') (ef : ∀ j, j < nl' → f' j = fl' j) : Two V W u nu fu v' nl' fl' := by
  subst em
  refine ⟨h.ru, ?_, fun k e q => ?_⟩
  · rw [← intsL_congr ef]
    exact ownD_base own hC
  · have a1 := hu k e
    have a2 := (own.lt k q).1
    omega
theorem Two.lo {g c k : Nat} (h : Two V W u nu fu (.slice (some ⟨g, 0, none⟩) nl c) nl fl) (hf : ∀ j, j < nl → -9223372036854775808 ≤ fl j ∧ fl j < 9223372036854775808) (hk : k < nl) : SliceI W (.slice (some ⟨g, 0, none⟩) k c) k fl := by
  have h2 := SliceI.sub (own_ints h.rl hf) 0 k (Nat.zero_le _) (by omega)
  rw [sliced_0, Nat.sub_zero] at h2
  exact h2.cg fun j _ => by rw [Nat.zero_add]
theorem Two.hi {g c k : Nat} (h : Two V W u nu fu (.slice (some ⟨g, 0, none⟩) nl c) nl fl) (hf : ∀ j, j < nl → -9223372036854775808 ≤ fl j ∧ fl j < 9223372036854775808) (hk : k < nl) : SliceI W (sliced (some ⟨g, 0, none⟩) (k + 1) nl c 1) (nl - (k + 1)) (fun j => fl (k + 1 + j)) :=
  SliceI.sub (own_ints h.rl hf) (k + 1) nl hk (Nat.le_refl _)
end
/-- append to the first of them. -/
theorem stepAppU {V W : World} {u lv : Value} {nu nl g : Nat} {fu fl : Nat → Int} {ops : Array Oper} {Q : Exit → Act → World → Prop} {K : Act → World → Prop} {j : Nat} {o : Oper} {a : Act} {s x : Operand} (hos : ops[j]? = some o) (hgd : Region.wanted o (yielded ops a.tmps) = true)
    (ho : o.op = .call { callee := .builtin .append, args := #[s, x], argTypes := #[22, 22] }) (hs : a.eval s = u) (hx : a.eval x = .slice (some ⟨g, 0, none⟩) 1 1) (h : Two V W u nu fu lv nl fl) (hg : W.heap[g]? = some (.cells #[.int .i64 (fu nu)] 3)) (hn : nu + 1 ≤ 17592186044416) (hB : V.heap.size ≤ W.heap.size)
    (hK : ∀ v' W', Two V W' v' (nu + 1) fu lv nl fl → W.grownBy W' u.ownBlock → K (a.put o.dst v') W') : wpOp Try.prog ops Q j K a W := by
  obtain ⟨i, i1, i2, i3, i4⟩ := infoI
  obtain ⟨v', W', run, q1, q2⟩ := execAppO (W := W) (news := [.int .i64 (fu nu)]) ho Try.underlying22 i1 i2 i3 i4 rfl (by decide) hs h.ru hx rfl (fun j u hu => by
    rw [Go.WideShapes.add_plain, cell_of_row _ _ _ _ _ _ hg, Nat.zero_add, ← Array.getElem?_toList]
    exact hu) (fun u hu => by
    obtain rfl := List.mem_singleton.1 hu
    rfl) (by unfold maxLen; omega) (by omega) hB
  obtain ⟨v2, W2, r2, pl⟩ := run_placeI W o.type _ nu g u fu (fu nu) h.ru hg hn
  have r3 : (execOp a.eval o).run Try.prog W = .ok (.value v2) W2 := by
    unfold execOp
    simp only [ho, resolve, invoke, builtin, Sem.run_bind, Sem.run_pure, Result.andThen_ok, List.map_toArray, List.map_cons, List.map_nil, hs, hx, r2]
  have r4 := run.symm.trans r3
  injection r4 with e1 e2
  injection e1 with e1
  subst e1
  rw [← intsL_succ] at q1
  refine stepV hos hgd run (hK v' W' ⟨q1, ownW_grown h.rl q2 (fun k e q => h.ap k q e), fun k e q => ?_⟩ q2)
  rcases pl k e with e3 | e3
  · exact h.ap k e3 q
  · have := (h.rl.lt k q).2
    omega
theorem lf_lt {f : Nat → Nat} {n i j : Nat} (hi : i ≤ n) (hj : j < n - i) : lf f n i j < n := by
  rw [lf_ul]
  obtain ⟨k, hk, e⟩ := ul_sub (n := n) (d := rkD f n) (i := 0) (j := i) (Nat.zero_le _) hi (fun k hk => rkD_lt (by omega)) ⟨j, hj, rfl⟩
  rw [← e]
  exact hk
theorem lf_next (f : Nat → Nat) (n i j : Nat) : catI (rkD f n i) (fun j => (lf f n i j : Int)) (fun j_1 => (fun j => (lf f n i j : Int)) (rkD f n i + 1 + j_1)) j = (lf f n (i + 1) j : Int) := by
  show _ = ((rem (lf f n i) (rkD f n i) j : Nat) : Int)
  by_cases q : j < rkD f n i
  · rw [catI_lo q, rem_lo q]
  · unfold catI
    rw [if_neg q, rem_hi (by omega)]
    show ((lf f n i (rkD f n i + 1 + (j - rkD f n i)) : Nat) : Int) = _
    rw [show rkD f n i + 1 + (j - rkD f n i) = j + 1 by omega]
set_option maxRecDepth 100000 in
set_option maxHeartbeats 4000000 in
/-- The reference's find, of what is there. -/
theorem rfind (f : Nat → Int) (n : Nat) (x : Int) (k : Nat) (v : Value) (V : World) (hv : SliceI V v n f) (hn17 : n ≤ 17592186044416) (hk : k < n) (hk2 : f k = x) (hu : ∀ j, j < k → f j ≠ x) :
    Calls Try.prog 34 #[v, .int .i64 x] V fun e w' => e = .returned (.int .i64 ((k : Nat) : Int)) ∧ Below V.heap.size V w' := by
  obtain ⟨ia, ic, rfl, -, -, hsh⟩ := id hv.shape
  have FI := hv
  go_enter Try.func34, Try.ntmps34
  refine wp_seq ?_
  refine wp_region_sqK 19 [(0, 4)] (fun i_ => match i_ with | 0 => .int .i64 ((0 : Nat) : Int) | _ => undef) rfl (by kernel_rfl) (by decide) (by decide) ?_ ?_
  · intro i_ hi_ a hf hv hn
    match i_, hi_ with
    | 0, _ => exact stepV rfl rfl (execAsgB rfl rfl) ⟨⟨_, rfl, rfl⟩, rfl⟩
    | k_ + 1, h_ => exact absurd h_ (by simp)
  intro a h1 h2 h3 h4
  have t0 : a.eval (.tmp 0) = .slice ia n ic := (h3 0 (by decide)).trans rfl
  have t1 : a.eval (.tmp 1) = .int .i64 x := (h3 1 (by decide)).trans rfl
  have A : a.tmps.size = 19 ∧ a.defers = [] := ⟨h1, h2⟩
  have BW : Below V.heap.size V V := Below.refl _ _
  clear h1 h2 h3 h4
  have BB := BW
  refine wp_seq ?_
  refine wp_seq ?_
  refine wp_region_sq (σ := Unit) 19 [(0, 5)] (fun j_ s X => match j_ with | 0 => Below V.heap.size V X | _ => Below V.heap.size V X) (fun s => fun i_ => match i_ with | 0 => .int .i64 ((0 : Nat) : Int) | _ => undef) () A.1 (by kernel_rfl) (by decide) (by decide) (BB) ?_ ?_
  · intro i_ hi_ s a X hf hv hn hS
    match i_, hi_ with
    | 0, _ => exact stepV rfl rfl (execAsgB rfl rfl) ⟨s, ⟨_, rfl, rfl⟩, hS, fun _ _ => rfl⟩
    | k_ + 1, h_ => exact absurd h_ (by simp)
  rintro _ a X1 h1 h2 h3 h4 hS
  clear BB
  replace hS : Below V.heap.size V X1 := hS
  have BB := hS
  clear hS
  replace t0 := (h3 0 (by decide)).trans t0
  replace t1 := (h3 1 (by decide)).trans t1
  have t5 : a.eval (.tmp 5) = .int .i64 ((0 : Nat) : Int) := h4 0 _ rfl _ rfl
  replace A := (⟨h1, h2.trans A.2⟩ : a.tmps.size = 19 ∧ a.defers = [])
  clear h1 h2 h3 h4
  refine wp_block ?_
  refine wp_loop (fun a W => ∃ (i : Nat), i ≤ n ∧ (i ≤ k) ∧ (a.tmps.size = 19 ∧ a.defers = []) ∧ a.eval (.tmp 0) = .slice ia n ic ∧ a.eval (.tmp 1) = .int .i64 x ∧ a.eval (.tmp 5) = .int .i64 ((i : Nat) : Int) ∧ Below V.heap.size V W) (fun a _ => n - (intOf (a.eval (.tmp 5))).toNat) ⟨0, Nat.zero_le _, Nat.zero_le _, A, t0, t1, t5, BB⟩ ?_
  clear A t0 t1 t5 BB a
  rintro a XL2 ⟨i, hi, hik0, A, t0, t1, t5, BB⟩
  have es := t5
  refine wp_seq ?_
  refine wp_seq ?_
  refine wp_region_sq (σ := Unit) 19 [(0, 6), (1, 7), (2, 8), (3, 9)] (fun j_ s X => match j_ with | 0 => Below V.heap.size V X | 1 => Below V.heap.size V X | 2 => Below V.heap.size V X | 3 => Below V.heap.size V X | _ => Below V.heap.size V X) (fun s => fun i_ => match i_ with | 0 => .int .i64 ((i : Nat) : Int) | 1 => .slice ia n ic | 2 => .int .i64 ((n : Nat) : Int) | 3 => .bool (decide (i < n)) | _ => undef) () A.1 (by kernel_rfl) (by decide) (by decide) (BB) ?_ ?_
  · intro i_ hi_ s a X hf hv hn hS
    match i_, hi_ with
    | 0, _ => exact stepV rfl rfl (execMvB rfl ((hf 5 (by decide)).trans t5)) ⟨s, ⟨_, rfl, rfl⟩, hS, fun _ _ => rfl⟩
    | 1, _ => exact stepV rfl rfl (execMvB rfl ((hf 0 (by decide)).trans t0)) ⟨s, ⟨_, rfl, rfl⟩, hS, fun _ _ => rfl⟩
    | 2, _ => exact stepV rfl rfl (execLenI (len := n) rfl (hv 1 (by omega) _ rfl _ rfl) ((FI.on hS)).shp) ⟨s, ⟨_, rfl, rfl⟩, hS, fun _ _ => rfl⟩
    | 3, _ => exact stepV rfl rfl (execLtW (p := i) (q := n) rfl (hv 0 (by omega) _ rfl _ rfl) (hv 2 (by omega) _ rfl _ rfl)) ⟨s, ⟨_, rfl, rfl⟩, hS, fun _ _ => rfl⟩
    | k_ + 4, h_ => exact absurd h_ (by simp)
  rintro _ a X2 h1 h2 h3 h4 hS
  clear BB
  replace hS : Below V.heap.size V X2 := hS
  have BB := hS
  clear hS
  replace t0 := (h3 0 (by decide)).trans t0
  replace t1 := (h3 1 (by decide)).trans t1
  replace t5 := (h3 5 (by decide)).trans t5
  have t9 : a.eval (.tmp 9) = .bool (decide (i < n)) := h4 3 _ rfl _ rfl
  replace A := (⟨h1, h2.trans A.2⟩ : a.tmps.size = 19 ∧ a.defers = [])
  clear h1 h2 h3 h4
  by_cases hlt : i < n
  · rw [decide_eq_true hlt] at t9
    refine wp_cond_true t9 ?_
    refine wp_skip ?_
    clear t9
    refine wp_seq ?_
    refine wp_block ?_
    obtain ⟨ib, io, rfl, hib, hcell⟩ := hsh (by omega)
    have cI : ∀ k, k < n → ∀ X, Below V.heap.size V X → X.cell? ⟨ib, io + k, none⟩ = some (.int .i64 (f k)) := fun k hk X hX => by rw [cell_below hX hib]; exact hcell k hk
    by_cases hx : f i = x
    · refine wp_seq ?_
      refine wp_region_sq (σ := Unit) 19 [(0, 12), (1, 13), (2, 14), (3, 15), (4, 16), (5, 17)] (fun j_ s X => match j_ with | 0 => Below V.heap.size V X | 1 => Below V.heap.size V X | 2 => Below V.heap.size V X | 3 => Below V.heap.size V X | 4 => Below V.heap.size V X | 5 => Below V.heap.size V X | _ => Below V.heap.size V X) (fun s => fun i_ => match i_ with | 0 => .slice (some ⟨ib, io, none⟩) n ic | 1 => .int .i64 ((i : Nat) : Int) | 2 => .pointer (some ⟨ib, io + i, none⟩) | 3 => .int .i64 (f i) | 4 => .int .i64 x | 5 => .bool true | _ => undef) () A.1 (by kernel_rfl) (by decide) (by decide) (BB) ?_ ?_
      · intro i_ hi_ s a X hf hv hn hS
        match i_, hi_ with
        | 0, _ => exact stepV rfl rfl (execMvB rfl ((hf 0 (by decide)).trans t0)) ⟨s, ⟨_, rfl, rfl⟩, hS, fun _ _ => rfl⟩
        | 1, _ => exact stepV rfl rfl (execMvB rfl ((hf 5 (by decide)).trans t5)) ⟨s, ⟨_, rfl, rfl⟩, hS, fun _ _ => rfl⟩
        | 2, _ => exact stepV rfl rfl (execIdxN (k := i) rfl (hv 0 (by omega) _ rfl _ rfl) (hv 1 (by omega) _ rfl _ rfl) hlt) ⟨s, ⟨_, rfl, rfl⟩, hS, fun _ _ => rfl⟩
        | 3, _ => exact stepV rfl rfl (execLd3 rfl (hv 2 (by omega) _ rfl _ rfl) (cI i hlt X hS)) ⟨s, ⟨_, rfl, rfl⟩, hS, fun _ _ => rfl⟩
        | 4, _ => exact stepV rfl rfl (execMvB rfl ((hf 1 (by decide)).trans t1)) ⟨s, ⟨_, rfl, rfl⟩, hS, fun _ _ => rfl⟩
        | 5, _ => exact stepV rfl rfl (execEqIgt rfl (hv 3 (by omega) _ rfl _ rfl) (hv 4 (by omega) _ rfl _ rfl) hx) ⟨s, ⟨_, rfl, rfl⟩, hS, fun _ _ => rfl⟩
        | k_ + 6, h_ => exact absurd h_ (by simp)
      rintro _ a X4 h1 h2 h3 h4 hS
      clear BB
      replace hS : Below V.heap.size V X4 := hS
      have BB := hS
      clear hS
      replace t0 := (h3 0 (by decide)).trans t0
      replace t1 := (h3 1 (by decide)).trans t1
      replace t5 := (h3 5 (by decide)).trans t5
      have t17 : a.eval (.tmp 17) = .bool true := h4 5 _ rfl _ rfl
      replace A := (⟨h1, h2.trans A.2⟩ : a.tmps.size = 19 ∧ a.defers = [])
      clear h1 h2 h3 h4
      refine wp_cond_true t17 ?_
      refine wp_seq ?_
      refine wp_region_sq (σ := Unit) 19 [(0, 18), (1, 4)] (fun j_ s X => match j_ with | 0 => Below V.heap.size V X | 1 => Below V.heap.size V X | _ => Below V.heap.size V X) (fun s => fun i_ => match i_ with | 0 => .int .i64 ((i : Nat) : Int) | 1 => .int .i64 ((i : Nat) : Int) | _ => undef) () A.1 (by kernel_rfl) (by decide) (by decide) (BB) ?_ ?_
      · intro i_ hi_ s a X hf hv hn hS
        match i_, hi_ with
        | 0, _ => exact stepV rfl rfl (execMvB rfl ((hf 5 (by decide)).trans t5)) ⟨s, ⟨_, rfl, rfl⟩, hS, fun _ _ => rfl⟩
        | 1, _ => exact stepV rfl rfl (execAsgB rfl (hv 0 (by omega) _ rfl _ rfl)) ⟨s, ⟨_, rfl, rfl⟩, hS, fun _ _ => rfl⟩
        | k_ + 2, h_ => exact absurd h_ (by simp)
      rintro _ a X5 h1 h2 h3 h4 hS
      clear BB
      replace hS : Below V.heap.size V X5 := hS
      have BB := hS
      clear hS
      have t4 : a.eval (.tmp 4) = .int .i64 ((i : Nat) : Int) := h4 1 _ rfl _ rfl
      replace A := (⟨h1, h2.trans A.2⟩ : a.tmps.size = 19 ∧ a.defers = [])
      clear h1 h2 h3 h4
      clear t0 t1 t5
      have hik : i = k := by
        rcases Nat.lt_trichotomy i k with q | q | q
        · exact absurd hx (hu i q)
        · exact q
        · exact absurd q (Nat.not_lt.2 hik0)
      rw [hik] at t4
      refine wp_ret ?_
      repeat (first | refine ret_in ?_ | refine ret_then ?_)
      refine bodyPost_ret (results_tmp rfl _ _ _) A.2 ⟨?_, BB⟩
      show Ending.returned (a.eval (.tmp 4)) = _
      rw [t4]
    · refine wp_seq ?_
      refine wp_region_sq (σ := Unit) 19 [(0, 12), (1, 13), (2, 14), (3, 15), (4, 16), (5, 17)] (fun j_ s X => match j_ with | 0 => Below V.heap.size V X | 1 => Below V.heap.size V X | 2 => Below V.heap.size V X | 3 => Below V.heap.size V X | 4 => Below V.heap.size V X | 5 => Below V.heap.size V X | _ => Below V.heap.size V X) (fun s => fun i_ => match i_ with | 0 => .slice (some ⟨ib, io, none⟩) n ic | 1 => .int .i64 ((i : Nat) : Int) | 2 => .pointer (some ⟨ib, io + i, none⟩) | 3 => .int .i64 (f i) | 4 => .int .i64 x | 5 => .bool false | _ => undef) () A.1 (by kernel_rfl) (by decide) (by decide) (BB) ?_ ?_
      · intro i_ hi_ s a X hf hv hn hS
        match i_, hi_ with
        | 0, _ => exact stepV rfl rfl (execMvB rfl ((hf 0 (by decide)).trans t0)) ⟨s, ⟨_, rfl, rfl⟩, hS, fun _ _ => rfl⟩
        | 1, _ => exact stepV rfl rfl (execMvB rfl ((hf 5 (by decide)).trans t5)) ⟨s, ⟨_, rfl, rfl⟩, hS, fun _ _ => rfl⟩
        | 2, _ => exact stepV rfl rfl (execIdxN (k := i) rfl (hv 0 (by omega) _ rfl _ rfl) (hv 1 (by omega) _ rfl _ rfl) hlt) ⟨s, ⟨_, rfl, rfl⟩, hS, fun _ _ => rfl⟩
        | 3, _ => exact stepV rfl rfl (execLd3 rfl (hv 2 (by omega) _ rfl _ rfl) (cI i hlt X hS)) ⟨s, ⟨_, rfl, rfl⟩, hS, fun _ _ => rfl⟩
        | 4, _ => exact stepV rfl rfl (execMvB rfl ((hf 1 (by decide)).trans t1)) ⟨s, ⟨_, rfl, rfl⟩, hS, fun _ _ => rfl⟩
        | 5, _ => exact stepV rfl rfl (execEqIgf rfl (hv 3 (by omega) _ rfl _ rfl) (hv 4 (by omega) _ rfl _ rfl) hx) ⟨s, ⟨_, rfl, rfl⟩, hS, fun _ _ => rfl⟩
        | k_ + 6, h_ => exact absurd h_ (by simp)
      rintro _ a X4 h1 h2 h3 h4 hS
      clear BB
      replace hS : Below V.heap.size V X4 := hS
      have BB := hS
      clear hS
      replace t0 := (h3 0 (by decide)).trans t0
      replace t1 := (h3 1 (by decide)).trans t1
      replace t5 := (h3 5 (by decide)).trans t5
      have t17 : a.eval (.tmp 17) = .bool false := h4 5 _ rfl _ rfl
      replace A := (⟨h1, h2.trans A.2⟩ : a.tmps.size = 19 ∧ a.defers = [])
      clear h1 h2 h3 h4
      refine wp_cond_false t17 ?_
      refine wp_skip ?_
      clear t17
      refine wp_region_sq (σ := Unit) 19 [(0, 10), (1, 11), (2, 5)] (fun j_ s X => match j_ with | 0 => Below V.heap.size V X | 1 => Below V.heap.size V X | 2 => Below V.heap.size V X | _ => Below V.heap.size V X) (fun s => fun i_ => match i_ with | 0 => .int .i64 ((i : Nat) : Int) | 1 => .int .i64 ((i + 1 : Nat) : Int) | 2 => .int .i64 ((i + 1 : Nat) : Int) | _ => undef) () A.1 (by kernel_rfl) (by decide) (by decide) (BB) ?_ ?_
      · intro i_ hi_ s a X hf hv hn hS
        match i_, hi_ with
        | 0, _ => exact stepV rfl rfl (execMvB rfl ((hn 2 (by omega) _ rfl _ rfl).trans t5)) ⟨s, ⟨_, rfl, rfl⟩, hS, fun _ _ => rfl⟩
        | 1, _ => exact stepV rfl rfl (execAd8 (p := i) (q := 1) rfl (hv 0 (by omega) _ rfl _ rfl) rfl (by omega)) ⟨s, ⟨_, rfl, rfl⟩, hS, fun _ _ => rfl⟩
        | 2, _ => exact stepV rfl rfl (execAsgB rfl (hv 1 (by omega) _ rfl _ rfl)) ⟨s, ⟨_, rfl, rfl⟩, hS, fun _ _ => rfl⟩
        | k_ + 3, h_ => exact absurd h_ (by simp)
      rintro _ a X3 h1 h2 h3 h4 hS
      clear BB
      replace hS : Below V.heap.size V X3 := hS
      have BB := hS
      clear hS
      replace t0 := (h3 0 (by decide)).trans t0
      replace t1 := (h3 1 (by decide)).trans t1
      replace t5 : a.eval (.tmp 5) = .int .i64 ((i + 1 : Nat) : Int) := h4 2 _ rfl _ rfl
      replace A := (⟨h1, h2.trans A.2⟩ : a.tmps.size = 19 ∧ a.defers = [])
      clear h1 h2 h3 h4
      exact ⟨⟨i + 1, hlt, (by rcases Nat.lt_or_ge i k with q | q; exact q; exact absurd (by rw [Nat.le_antisymm hik0 q]; exact hk2) hx), A, t0, t1, t5, BB⟩, by show n - (intOf (a.eval (.tmp 5))).toNat < n - (intOf (Act.eval _ (.tmp 5))).toNat; rw [t5, es]; show n - (i + 1) < n - i; omega⟩
  · rw [decide_eq_false hlt] at t9
    refine wp_cond_false t9 ?_
    refine wp_exit ?_
    first | refine exit_in ?_ | refine exit_then (exit_in ?_) | refine exit_then (exit_then (exit_in ?_))
    clear t9 es
    omega
set_option maxRecDepth 100000 in
set_option maxHeartbeats 4000000 in
/-- The reference's Rank. -/
theorem rrank (f : Nat → Int) (n : Nat) (v : Value) (V : World) (hv : SliceI V v n f) (hn17 : n ≤ 17592186044416) :
    Calls Try.prog 13 #[v] V fun e w' => ∃ r, e = .returned (.tuple #[r, .int .i64 ((pE f n : Nat) : Int)]) ∧ w'.ownsRow V.heap.size 3 1 r (zl (pE f n) n) (intsL (zl (pE f n) n) (fun j => (rkD (gN f) n j : Int))) ∧ Below V.heap.size V w' := by
  obtain ⟨ia, ic, rfl, -, -, hsh⟩ := id hv.shape
  have FI := hv
  go_enter Try.func13, Try.ntmps13
  refine wp_seq ?_
  refine wp_region_sqK 41 [(0, 2), (1, 3)] (fun i_ => match i_ with | 0 => .slice none 0 0 | 1 => .int .i64 ((0 : Nat) : Int) | _ => undef) rfl (by kernel_rfl) (by decide) (by decide) ?_ ?_
  · intro i_ hi_ a hf hv hn
    match i_, hi_ with
    | 0, _ => exact stepV rfl rfl (execAsgB rfl rfl) ⟨⟨_, rfl, rfl⟩, rfl⟩
    | 1, _ => exact stepV rfl rfl (execAsgB rfl rfl) ⟨⟨_, rfl, rfl⟩, rfl⟩
    | k_ + 2, h_ => exact absurd h_ (by simp)
  intro a h1 h2 h3 h4
  have t0 : a.eval (.tmp 0) = .slice ia n ic := (h3 0 (by decide)).trans rfl
  have A : a.tmps.size = 41 ∧ a.defers = [] := ⟨h1, h2⟩
  have BW : Below V.heap.size V V := Below.refl _ _
  clear h1 h2 h3 h4
  have BB := BW
  refine wp_seq ?_
  refine wp_seq ?_
  by_cases hok : okQ f n n = true
  · refine wp_region_sq (σ := Unit) 41 [(0, 8), (1, 9), (2, 10)] (fun j_ s X => match j_ with | 0 => Below V.heap.size V X | 1 => Below V.heap.size V X | 2 => Below V.heap.size V X | _ => Below V.heap.size V X) (fun s => fun i_ => match i_ with | 0 => .slice ia n ic | 1 => .int .i64 ((pE f n : Nat) : Int) | 2 => .bool false | _ => undef) () A.1 (by kernel_rfl) (by decide) (by decide) (BB) ?_ ?_
    · intro i_ hi_ s a X hf hv hn hS
      match i_, hi_ with
      | 0, _ => exact stepV rfl rfl (execMvB rfl ((hf 0 (by decide)).trans t0)) ⟨s, ⟨_, rfl, rfl⟩, hS, fun _ _ => rfl⟩
      | 1, _ => exact stepC rfl rfl (execCall1 Try.func33 (by kernel_rfl) (by kernel_rfl) rfl (hv 0 (by omega) _ rfl _ rfl)) (rcheck f n _ X (FI.on hS) hn17) fun e w' hh => ⟨_, hh.1, s, ⟨_, rfl, rfl⟩, (hS).trans ((hh.2).mono (hS).size), fun _ _ => rfl⟩
      | 2, _ => exact stepV rfl rfl (execDec (execNeN (p := pE f n) (q := 0) rfl (hv 1 (by omega) _ rfl _ rfl) rfl) (decide_eq_false (by have := pE_ok hok; omega))) ⟨s, ⟨_, rfl, rfl⟩, hS, fun _ _ => rfl⟩
      | k_ + 3, h_ => exact absurd h_ (by simp)
    rintro _ a X1 h1 h2 h3 h4 hS
    clear BB
    replace hS : Below V.heap.size V X1 := hS
    have BB := hS
    clear hS
    replace t0 := (h3 0 (by decide)).trans t0
    have t10 : a.eval (.tmp 10) = .bool false := h4 2 _ rfl _ rfl
    replace A := (⟨h1, h2.trans A.2⟩ : a.tmps.size = 41 ∧ a.defers = [])
    clear h1 h2 h3 h4
    refine wp_cond_false t10 ?_
    refine wp_skip ?_
    clear t10
    obtain ⟨hrange, _⟩ := okQ_iff.1 hok
    have hP : IsP (gN f) n := isP_of hok
    refine wp_seq ?_
    refine wp_region_sq (σ := Value) 41 [(0, 11), (1, 12), (2, 13), (3, 4)] (fun j_ s X => match j_ with | 0 => Below V.heap.size V X | 1 => Below V.heap.size V X | 2 => Below V.heap.size V X | 3 => Below V.heap.size V X ∧ (X.ownsRow V.heap.size 3 1 s (n) (intsL (n) (fun j => (j : Int)))) | _ => Below V.heap.size V X ∧ (X.ownsRow V.heap.size 3 1 s (n) (intsL (n) (fun j => (j : Int))))) (fun s => fun i_ => match i_ with | 0 => .slice ia n ic | 1 => .int .i64 ((n : Nat) : Int) | 2 => s | 3 => s | _ => undef) undef A.1 (by kernel_rfl) (by decide) (by decide) (BB) ?_ ?_
    · intro i_ hi_ s a X hf hv hn hS
      match i_, hi_ with
      | 0, _ => exact stepV rfl rfl (execMvB rfl ((hf 0 (by decide)).trans t0)) ⟨s, ⟨_, rfl, rfl⟩, hS, fun _ _ => rfl⟩
      | 1, _ => exact stepV rfl rfl (execLenI (len := n) rfl (hv 0 (by omega) _ rfl _ rfl) ((FI.on hS)).shp) ⟨s, ⟨_, rfl, rfl⟩, hS, fun _ _ => rfl⟩
      | 2, _ =>
        refine stepC rfl rfl (execCall1 Try.func23 (by kernel_rfl) (by kernel_rfl) rfl (hv 1 (by omega) _ rfl _ rfl)) (rident (n : Int) X (by omega)) fun e w' hh => ?_
        obtain ⟨r_, he, hk, hb⟩ := hh
        rw [Int.toNat_natCast] at hk
        refine ⟨_, he, r_, ⟨_, rfl, rfl⟩, ⟨(hS).trans ((hb).mono (hS).size), ownD_base hk (hS).size⟩, fun i hi => ?_⟩
        match i, hi with
        | 0, _ => rfl
        | 1, _ => rfl
        | n_ + 2, h_ => omega
      | 3, _ => exact stepV rfl rfl (execAsgB rfl (hv 2 (by omega) _ rfl _ rfl)) ⟨s, ⟨_, rfl, rfl⟩, hS, fun _ _ => rfl⟩
      | k_ + 4, h_ => exact absurd h_ (by simp)
    rintro v13 a X3 h1 h2 h3 h4 hS
    clear BB
    replace hS : Below V.heap.size V X3 ∧ (X3.ownsRow V.heap.size 3 1 v13 (n) (intsL (n) (fun j => (j : Int)))) := hS
    obtain ⟨BB, FL⟩ := hS
    replace t0 := (h3 0 (by decide)).trans t0
    have t4 : a.eval (.tmp 4) = v13 := h4 3 _ rfl _ rfl
    replace A := (⟨h1, h2.trans A.2⟩ : a.tmps.size = 41 ∧ a.defers = [])
    clear h1 h2 h3 h4
    refine wp_seq ?_
    refine wp_region_sq (σ := Unit) 41 [(0, 5)] (fun j_ s X => match j_ with | 0 => Below V.heap.size V X ∧ (X.ownsRow V.heap.size 3 1 v13 (n) (intsL (n) (fun j => (j : Int)))) | _ => Below V.heap.size V X ∧ (X.ownsRow V.heap.size 3 1 v13 (n) (intsL (n) (fun j => (j : Int))))) (fun s => fun i_ => match i_ with | 0 => .slice none 0 0 | _ => undef) () A.1 (by kernel_rfl) (by decide) (by decide) ⟨BB, FL⟩ ?_ ?_
    · intro i_ hi_ s a X hf hv hn hS
      match i_, hi_ with
      | 0, _ => exact stepV rfl rfl (execAsgB rfl rfl) ⟨s, ⟨_, rfl, rfl⟩, hS, fun _ _ => rfl⟩
      | k_ + 1, h_ => exact absurd h_ (by simp)
    rintro _ a X4 h1 h2 h3 h4 hS
    clear BB
    clear FL
    replace hS : Below V.heap.size V X4 ∧ (X4.ownsRow V.heap.size 3 1 v13 (n) (intsL (n) (fun j => (j : Int)))) := hS
    obtain ⟨BB, FL⟩ := hS
    replace t0 := (h3 0 (by decide)).trans t0
    replace t4 := (h3 4 (by decide)).trans t4
    have t5 : a.eval (.tmp 5) = .slice none 0 0 := h4 0 _ rfl _ rfl
    replace A := (⟨h1, h2.trans A.2⟩ : a.tmps.size = 41 ∧ a.defers = [])
    clear h1 h2 h3 h4
    have FT : Two V X4 (.slice none 0 0) 0 (fun j => (rkD (gN f) n j : Int)) v13 (n - 0) (fun j => (lf (gN f) n 0 j : Int)) := ⟨World.ownsRow_nil _ _ _ _, FL, fun k e => by cases e⟩
    clear FL
    refine wp_seq ?_
    refine wp_seq ?_
    refine wp_region_sq (σ := Unit) 41 [(0, 6)] (fun j_ s X => match j_ with | 0 => Below V.heap.size V X ∧ (Two V X (.slice none 0 0) (0) (fun j => (rkD (gN f) n j : Int)) v13 (n - 0) (fun j => (lf (gN f) n 0 j : Int))) | _ => Below V.heap.size V X ∧ (Two V X (.slice none 0 0) (0) (fun j => (rkD (gN f) n j : Int)) v13 (n - 0) (fun j => (lf (gN f) n 0 j : Int)))) (fun s => fun i_ => match i_ with | 0 => .int .i64 ((0 : Nat) : Int) | _ => undef) () A.1 (by kernel_rfl) (by decide) (by decide) ⟨BB, FT⟩ ?_ ?_
    · intro i_ hi_ s a X hf hv hn hS
      match i_, hi_ with
      | 0, _ => exact stepV rfl rfl (execAsgB rfl rfl) ⟨s, ⟨_, rfl, rfl⟩, hS, fun _ _ => rfl⟩
      | k_ + 1, h_ => exact absurd h_ (by simp)
    rintro _ a X5 h1 h2 h3 h4 hS
    clear BB
    clear FT
    replace hS : Below V.heap.size V X5 ∧ (Two V X5 (.slice none 0 0) (0) (fun j => (rkD (gN f) n j : Int)) v13 (n - 0) (fun j => (lf (gN f) n 0 j : Int))) := hS
    obtain ⟨BB, FT⟩ := hS
    replace t0 := (h3 0 (by decide)).trans t0
    replace t4 := (h3 4 (by decide)).trans t4
    replace t5 := (h3 5 (by decide)).trans t5
    have t6 : a.eval (.tmp 6) = .int .i64 ((0 : Nat) : Int) := h4 0 _ rfl _ rfl
    replace A := (⟨h1, h2.trans A.2⟩ : a.tmps.size = 41 ∧ a.defers = [])
    clear h1 h2 h3 h4
    refine wp_block ?_
    refine wp_loop (fun a W => ∃ (i : Nat) (u : Value) (lv : Value), i ≤ n ∧ (a.tmps.size = 41 ∧ a.defers = []) ∧ a.eval (.tmp 0) = .slice ia n ic ∧ a.eval (.tmp 4) = lv ∧ a.eval (.tmp 5) = u ∧ a.eval (.tmp 6) = .int .i64 ((i : Nat) : Int) ∧ Below V.heap.size V W ∧ (Two V W u (i) (fun j => (rkD (gN f) n j : Int)) lv (n - i) (fun j => (lf (gN f) n i j : Int)))) (fun a _ => n - (intOf (a.eval (.tmp 6))).toNat) ⟨0, _, _, Nat.zero_le _, A, t0, t4, t5, t6, BB, FT⟩ ?_
    clear A t0 t4 t5 t6 BB FT a
    rintro a XL6 ⟨i, u, lv, hi, A, t0, t4, t5, t6, BB, FT⟩
    have es := t6
    refine wp_seq ?_
    refine wp_seq ?_
    refine wp_region_sq (σ := Unit) 41 [(0, 14), (1, 15), (2, 16), (3, 17)] (fun j_ s X => match j_ with | 0 => Below V.heap.size V X ∧ (Two V X u (i) (fun j => (rkD (gN f) n j : Int)) lv (n - i) (fun j => (lf (gN f) n i j : Int))) | 1 => Below V.heap.size V X ∧ (Two V X u (i) (fun j => (rkD (gN f) n j : Int)) lv (n - i) (fun j => (lf (gN f) n i j : Int))) | 2 => Below V.heap.size V X ∧ (Two V X u (i) (fun j => (rkD (gN f) n j : Int)) lv (n - i) (fun j => (lf (gN f) n i j : Int))) | 3 => Below V.heap.size V X ∧ (Two V X u (i) (fun j => (rkD (gN f) n j : Int)) lv (n - i) (fun j => (lf (gN f) n i j : Int))) | _ => Below V.heap.size V X ∧ (Two V X u (i) (fun j => (rkD (gN f) n j : Int)) lv (n - i) (fun j => (lf (gN f) n i j : Int)))) (fun s => fun i_ => match i_ with | 0 => .int .i64 ((i : Nat) : Int) | 1 => .slice ia n ic | 2 => .int .i64 ((n : Nat) : Int) | 3 => .bool (decide (i < n)) | _ => undef) () A.1 (by kernel_rfl) (by decide) (by decide) ⟨BB, FT⟩ ?_ ?_
    · intro i_ hi_ s a X hf hv hn hS
      match i_, hi_ with
      | 0, _ => exact stepV rfl rfl (execMvB rfl ((hf 6 (by decide)).trans t6)) ⟨s, ⟨_, rfl, rfl⟩, hS, fun _ _ => rfl⟩
      | 1, _ => exact stepV rfl rfl (execMvB rfl ((hf 0 (by decide)).trans t0)) ⟨s, ⟨_, rfl, rfl⟩, hS, fun _ _ => rfl⟩
      | 2, _ => exact stepV rfl rfl (execLenI (len := n) rfl (hv 1 (by omega) _ rfl _ rfl) ((FI.on hS.1)).shp) ⟨s, ⟨_, rfl, rfl⟩, hS, fun _ _ => rfl⟩
      | 3, _ => exact stepV rfl rfl (execLtW (p := i) (q := n) rfl (hv 0 (by omega) _ rfl _ rfl) (hv 2 (by omega) _ rfl _ rfl)) ⟨s, ⟨_, rfl, rfl⟩, hS, fun _ _ => rfl⟩
      | k_ + 4, h_ => exact absurd h_ (by simp)
    rintro _ a X6 h1 h2 h3 h4 hS
    clear BB
    clear FT
    replace hS : Below V.heap.size V X6 ∧ (Two V X6 u (i) (fun j => (rkD (gN f) n j : Int)) lv (n - i) (fun j => (lf (gN f) n i j : Int))) := hS
    obtain ⟨BB, FT⟩ := hS
    replace t0 := (h3 0 (by decide)).trans t0
    replace t4 := (h3 4 (by decide)).trans t4
    replace t5 := (h3 5 (by decide)).trans t5
    replace t6 := (h3 6 (by decide)).trans t6
    have t17 : a.eval (.tmp 17) = .bool (decide (i < n)) := h4 3 _ rfl _ rfl
    replace A := (⟨h1, h2.trans A.2⟩ : a.tmps.size = 41 ∧ a.defers = [])
    clear h1 h2 h3 h4
    by_cases hlt : i < n
    · rw [decide_eq_true hlt] at t17
      refine wp_cond_true t17 ?_
      refine wp_skip ?_
      clear t17
      refine wp_seq ?_
      refine wp_block ?_
      have hkl := rkD_lt (f := gN f) (n := n) (i := i) hlt
      have hfi := hrange i hlt
      have hra := rank_at hP hlt
      have hgi : (gN f i : Int) = f i := by show ((f i).toNat : Int) = f i; omega
      have hat : (fun j => (lf (gN f) n i j : Int)) (rkD (gN f) n i) = f i := by show ((lf (gN f) n i (rkD (gN f) n i) : Nat) : Int) = f i; rw [hra]; exact hgi
      have hinc : Inc (lf (gN f) n i) (n - i) := by rw [lf_ul]; exact ul_inc (by omega)
      have hbe : ∀ j, j < rkD (gN f) n i → (fun j => (lf (gN f) n i j : Int)) j ≠ f i := fun j hj e => by have e2 : (lf (gN f) n i j : Int) = f i := e; have := hinc.inj (i := j) (j := rkD (gN f) n i) (by omega) hkl (by omega); omega
      have hfit : ∀ j, j < n - i → -9223372036854775808 ≤ (fun j => (lf (gN f) n i j : Int)) j ∧ (fun j => (lf (gN f) n i j : Int)) j < 9223372036854775808 := fun j hj => by have := lf_lt (f := gN f) (n := n) (i := i) (j := j) (by omega) hj; show -9223372036854775808 ≤ ((lf (gN f) n i j : Nat) : Int) ∧ ((lf (gN f) n i j : Nat) : Int) < 9223372036854775808; omega
      obtain ⟨ib, io, rfl, hib, hcell⟩ := hsh (by omega)
      have cI : ∀ k, k < n → ∀ X, Below V.heap.size V X → X.cell? ⟨ib, io + k, none⟩ = some (.int .i64 (f k)) := fun k hk X hX => by rw [cell_below hX hib]; exact hcell k hk
      obtain ⟨gl, cl, rfl, _, _⟩ := ownL_some9 FT.rl (by omega)
      have hcl := own_cap FT.rl
      refine wp_seq ?_
      refine wp_region_sq (σ := Unit) 41 [(0, 20), (1, 21), (2, 22), (3, 23), (4, 24), (5, 25), (6, 7)] (fun j_ s X => match j_ with | 0 => Below V.heap.size V X ∧ (Two V X u (i) (fun j => (rkD (gN f) n j : Int)) (.slice (some ⟨gl, 0, none⟩) (n - i) cl) (n - i) (fun j => (lf (gN f) n i j : Int))) | 1 => Below V.heap.size V X ∧ (Two V X u (i) (fun j => (rkD (gN f) n j : Int)) (.slice (some ⟨gl, 0, none⟩) (n - i) cl) (n - i) (fun j => (lf (gN f) n i j : Int))) | 2 => Below V.heap.size V X ∧ (Two V X u (i) (fun j => (rkD (gN f) n j : Int)) (.slice (some ⟨gl, 0, none⟩) (n - i) cl) (n - i) (fun j => (lf (gN f) n i j : Int))) | 3 => Below V.heap.size V X ∧ (Two V X u (i) (fun j => (rkD (gN f) n j : Int)) (.slice (some ⟨gl, 0, none⟩) (n - i) cl) (n - i) (fun j => (lf (gN f) n i j : Int))) | 4 => Below V.heap.size V X ∧ (Two V X u (i) (fun j => (rkD (gN f) n j : Int)) (.slice (some ⟨gl, 0, none⟩) (n - i) cl) (n - i) (fun j => (lf (gN f) n i j : Int))) | 5 => Below V.heap.size V X ∧ (Two V X u (i) (fun j => (rkD (gN f) n j : Int)) (.slice (some ⟨gl, 0, none⟩) (n - i) cl) (n - i) (fun j => (lf (gN f) n i j : Int))) | 6 => Below V.heap.size V X ∧ (Two V X u (i) (fun j => (rkD (gN f) n j : Int)) (.slice (some ⟨gl, 0, none⟩) (n - i) cl) (n - i) (fun j => (lf (gN f) n i j : Int))) | _ => Below V.heap.size V X ∧ (Two V X u (i) (fun j => (rkD (gN f) n j : Int)) (.slice (some ⟨gl, 0, none⟩) (n - i) cl) (n - i) (fun j => (lf (gN f) n i j : Int)))) (fun s => fun i_ => match i_ with | 0 => .slice (some ⟨gl, 0, none⟩) (n - i) cl | 1 => .slice (some ⟨ib, io, none⟩) n ic | 2 => .int .i64 ((i : Nat) : Int) | 3 => .pointer (some ⟨ib, io + i, none⟩) | 4 => .int .i64 (f i) | 5 => .int .i64 ((rkD (gN f) n i : Nat) : Int) | 6 => .int .i64 ((rkD (gN f) n i : Nat) : Int) | _ => undef) () A.1 (by kernel_rfl) (by decide) (by decide) ⟨BB, FT⟩ ?_ ?_
      · intro i_ hi_ s a X hf hv hn hS
        match i_, hi_ with
        | 0, _ => exact stepV rfl rfl (execMvB rfl ((hf 4 (by decide)).trans t4)) ⟨s, ⟨_, rfl, rfl⟩, hS, fun _ _ => rfl⟩
        | 1, _ => exact stepV rfl rfl (execMvB rfl ((hf 0 (by decide)).trans t0)) ⟨s, ⟨_, rfl, rfl⟩, hS, fun _ _ => rfl⟩
        | 2, _ => exact stepV rfl rfl (execMvB rfl ((hf 6 (by decide)).trans t6)) ⟨s, ⟨_, rfl, rfl⟩, hS, fun _ _ => rfl⟩
        | 3, _ => exact stepV rfl rfl (execIdxN (k := i) rfl (hv 1 (by omega) _ rfl _ rfl) (hv 2 (by omega) _ rfl _ rfl) hlt) ⟨s, ⟨_, rfl, rfl⟩, hS, fun _ _ => rfl⟩
        | 4, _ => exact stepV rfl rfl (execLd3 rfl (hv 3 (by omega) _ rfl _ rfl) (cI i hlt X hS.1)) ⟨s, ⟨_, rfl, rfl⟩, hS, fun _ _ => rfl⟩
        | 5, _ => exact stepC rfl rfl (execCall2 Try.func34 (by kernel_rfl) (by kernel_rfl) rfl (hv 0 (by omega) _ rfl _ rfl) (hv 4 (by omega) _ rfl _ rfl)) (rfind (fun j => (lf (gN f) n i j : Int)) (n - i) (f i) (rkD (gN f) n i) _ X (own_ints hS.2.rl hfit) (by omega) hkl hat hbe) fun e w' hh => ⟨_, hh.1, s, ⟨_, rfl, rfl⟩, ⟨(hS.1).trans ((hh.2).mono (hS.1).size), (hS.2.on hh.2)⟩, fun _ _ => rfl⟩
        | 6, _ => exact stepV rfl rfl (execAsgB rfl (hv 5 (by omega) _ rfl _ rfl)) ⟨s, ⟨_, rfl, rfl⟩, hS, fun _ _ => rfl⟩
        | k_ + 7, h_ => exact absurd h_ (by simp)
      rintro _ a X8 h1 h2 h3 h4 hS
      clear BB
      clear FT
      replace hS : Below V.heap.size V X8 ∧ (Two V X8 u (i) (fun j => (rkD (gN f) n j : Int)) (.slice (some ⟨gl, 0, none⟩) (n - i) cl) (n - i) (fun j => (lf (gN f) n i j : Int))) := hS
      obtain ⟨BB, FT⟩ := hS
      replace t0 := (h3 0 (by decide)).trans t0
      replace t4 := (h3 4 (by decide)).trans t4
      replace t5 := (h3 5 (by decide)).trans t5
      replace t6 := (h3 6 (by decide)).trans t6
      have t7 : a.eval (.tmp 7) = .int .i64 ((rkD (gN f) n i : Nat) : Int) := h4 6 _ rfl _ rfl
      replace A := (⟨h1, h2.trans A.2⟩ : a.tmps.size = 41 ∧ a.defers = [])
      clear h1 h2 h3 h4
      refine wp_seq ?_
      refine wp_region_sq (σ := Nat × Value) 41 [(0, 26), (1, 27), (2, 28), (3, 29), (4, 5)] (fun j_ s X => match j_ with | 0 => Below V.heap.size V X ∧ (Two V X u (i) (fun j => (rkD (gN f) n j : Int)) (.slice (some ⟨gl, 0, none⟩) (n - i) cl) (n - i) (fun j => (lf (gN f) n i j : Int))) | 1 => Below V.heap.size V X ∧ (Two V X u (i) (fun j => (rkD (gN f) n j : Int)) (.slice (some ⟨gl, 0, none⟩) (n - i) cl) (n - i) (fun j => (lf (gN f) n i j : Int))) | 2 => Below V.heap.size V X ∧ (Two V X u (i) (fun j => (rkD (gN f) n j : Int)) (.slice (some ⟨gl, 0, none⟩) (n - i) cl) (n - i) (fun j => (lf (gN f) n i j : Int))) | 3 => Below V.heap.size V X ∧ (Two V X u (i) (fun j => (rkD (gN f) n j : Int)) (.slice (some ⟨gl, 0, none⟩) (n - i) cl) (n - i) (fun j => (lf (gN f) n i j : Int))) ∧ (X.heap[s.1]? = some (.cells #[.int .i64 (((rkD (gN f) n i : Nat) : Int))] 3)) | 4 => Below V.heap.size V X ∧ (Two V X s.2 (i + 1) (fun j => (rkD (gN f) n j : Int)) (.slice (some ⟨gl, 0, none⟩) (n - i) cl) (n - i) (fun j => (lf (gN f) n i j : Int))) | _ => Below V.heap.size V X ∧ (Two V X s.2 (i + 1) (fun j => (rkD (gN f) n j : Int)) (.slice (some ⟨gl, 0, none⟩) (n - i) cl) (n - i) (fun j => (lf (gN f) n i j : Int)))) (fun s => fun i_ => match i_ with | 0 => u | 1 => .int .i64 ((rkD (gN f) n i : Nat) : Int) | 2 => .slice (some ⟨s.1, 0, none⟩) 1 1 | 3 => s.2 | 4 => s.2 | _ => undef) (0, undef) A.1 (by kernel_rfl) (by decide) (by decide) ⟨BB, FT⟩ ?_ ?_
      · intro i_ hi_ s a X hf hv hn hS
        match i_, hi_ with
        | 0, _ => exact stepV rfl rfl (execMvB rfl ((hn 4 (by omega) _ rfl _ rfl).trans t5)) ⟨s, ⟨_, rfl, rfl⟩, hS, fun _ _ => rfl⟩
        | 1, _ => exact stepV rfl rfl (execMvB rfl ((hf 7 (by decide)).trans t7)) ⟨s, ⟨_, rfl, rfl⟩, hS, fun _ _ => rfl⟩
        | 2, _ =>
          refine stepV rfl rfl (execBsI (z := ((rkD (gN f) n i : Nat) : Int)) rfl (hv 1 (by omega) _ rfl _ rfl)) ⟨(X.heap.size, s.2), ⟨_, rfl, rfl⟩, ⟨(hS.1).trans (((belNew X _)).mono (hS.1).size), (hS.2.on (belNew X _)), heapNew X _⟩, fun i hi => ?_⟩
          match i, hi with
          | 0, _ => rfl
          | 1, _ => rfl
          | n_ + 2, h_ => omega
        | 3, _ =>
          refine stepAppU rfl rfl rfl (hv 0 (by omega) _ rfl _ rfl) (hv 2 (by omega) _ rfl _ rfl) hS.2.1 hS.2.2 (by omega) (hS.1).size fun v' W' t' gr => ⟨(s.1, v'), ⟨_, rfl, rfl⟩, ⟨(hS.1).grown gr (hS.1).size (fun k hk => (hS.2.1.ru.lt k hk).1), t'⟩, fun i hi => ?_⟩
          match i, hi with
          | 0, _ => rfl
          | 1, _ => rfl
          | 2, _ => rfl
          | n_ + 3, h_ => omega
        | 4, _ => exact stepV rfl rfl (execAsgB rfl (hv 3 (by omega) _ rfl _ rfl)) ⟨s, ⟨_, rfl, rfl⟩, hS, fun _ _ => rfl⟩
        | k_ + 5, h_ => exact absurd h_ (by simp)
      rintro ⟨g28, v29⟩ a X9 h1 h2 h3 h4 hS
      clear BB
      clear FT
      replace hS : Below V.heap.size V X9 ∧ (Two V X9 v29 (i + 1) (fun j => (rkD (gN f) n j : Int)) (.slice (some ⟨gl, 0, none⟩) (n - i) cl) (n - i) (fun j => (lf (gN f) n i j : Int))) := hS
      obtain ⟨BB, FT2⟩ := hS
      replace t0 := (h3 0 (by decide)).trans t0
      replace t4 := (h3 4 (by decide)).trans t4
      replace t5 : a.eval (.tmp 5) = v29 := h4 4 _ rfl _ rfl
      replace t6 := (h3 6 (by decide)).trans t6
      replace t7 := (h3 7 (by decide)).trans t7
      replace A := (⟨h1, h2.trans A.2⟩ : a.tmps.size = 41 ∧ a.defers = [])
      clear h1 h2 h3 h4
      refine wp_region_stB (σ := Nat × Nat × Value × Value) 41 [(0, 30), (1, 31), (2, 32), (3, 33), (4, 34), (5, 35), (6, 36), (7, 37), (8, 38), (9, 39), (10, 4)] (fun l_ s X => Below V.heap.size V X ∧ (l_ 9 = false → (Two V X v29 (i + 1) (fun j => (rkD (gN f) n j : Int)) (.slice (some ⟨gl, 0, none⟩) (n - i) cl) (n - i) (fun j => (lf (gN f) n i j : Int)))) ∧ (l_ 0 = true → l_ 4 = false → (X.ownsRow s.2.1 3 1 (.slice (some ⟨s.1, 0, none⟩) 0 0) 0 (intsL 0 (fun _ => 0)))) ∧ (l_ 0 = true → (∀ k, v29.ownBlock = some k → k < s.2.1)) ∧ (l_ 0 = true → (∀ k, (Value.slice (some ⟨gl, 0, none⟩) (n - i) cl).ownBlock = some k → k < s.2.1)) ∧ (l_ 0 = true → (V.heap.size ≤ s.2.1)) ∧ (l_ 0 = true → l_ 9 = false → (s.2.1 ≤ X.heap.size)) ∧ (l_ 4 = true → l_ 9 = false → (X.ownsRow s.2.1 3 1 s.2.2.1 (rkD (gN f) n i) (intsL (rkD (gN f) n i) (fun j => (lf (gN f) n i j : Int))))) ∧ (l_ 9 = true → (Two V X v29 (i + 1) (fun j => (rkD (gN f) n j : Int)) s.2.2.2 (n - (i + 1)) (fun j => (lf (gN f) n (i + 1) j : Int))))) (fun s => fun i_ => match i_ with | 0 => .slice (some ⟨s.1, 0, none⟩) 0 0 | 1 => .slice (some ⟨gl, 0, none⟩) (n - i) cl | 2 => .int .i64 ((rkD (gN f) n i : Nat) : Int) | 3 => .slice (some ⟨gl, 0, none⟩) (rkD (gN f) n i) cl | 4 => s.2.2.1 | 5 => .slice (some ⟨gl, 0, none⟩) (n - i) cl | 6 => .int .i64 ((rkD (gN f) n i : Nat) : Int) | 7 => .int .i64 ((rkD (gN f) n i + 1 : Nat) : Int) | 8 => sliced (some ⟨gl, 0, none⟩) (rkD (gN f) n i + 1) (n - i) cl 1 | 9 => s.2.2.2 | 10 => s.2.2.2 | _ => undef) (0, 0, undef, undef) (by kernel_rfl) (by kernel_rfl) A.1 (by kernel_rfl) (by decide) (by decide) ⟨(BB.drew), (fun _ => (FT2.on (Below.refl _ _).drew)), (fun q0_ q1_ => by cases q0_), (fun q0_ => by cases q0_), (fun q0_ => by cases q0_), (fun q0_ => by cases q0_), (fun q0_ q1_ => by cases q0_), (fun q0_ q1_ => by cases q0_), (fun q0_ => by cases q0_)⟩ ?_ ?_
      · intro i_ hi_ l_ s a X hl_ hf hdep hl2 hcl hno hT
        have up : ∀ j x, x ≠ j → updB l_ j x = l_ x := fun j x hj => by unfold updB; simp [hj]
        match i_, hi_ with
        | 0, _ =>
          refine stepV rfl rfl (execBs0I rfl) ⟨(X.heap.size, X.heap.size, s.2.2.1, s.2.2.2), ⟨_, rfl, rfl⟩, ⟨hT.1.trans (((belNew X _)).mono hT.1.size), (fun q0_ => ((hT.2.1 (by rw [up 0 9 (by decide)] at q0_; exact q0_)).on (belNew X _))), (fun _q0_ _q1_ => own_noneI X _), (fun _q0_ => fun k e => ((hT.2.1 (by cases hq_ : l_ 9 with | false => rfl | true => exact absurd (hl_.symm.trans (hcl 4 _ rfl (hcl 9 _ rfl hq_ 4 rfl) 0 rfl)) (by decide))).ru.lt k e).2), (fun _q0_ => fun k e => ((hT.2.1 (by cases hq_ : l_ 9 with | false => rfl | true => exact absurd (hl_.symm.trans (hcl 4 _ rfl (hcl 9 _ rfl hq_ 4 rfl) 0 rfl)) (by decide))).rl.lt k e).2), (fun _q0_ => (hT.1).size), (fun _q0_ _q1_ => (belNew X _).size), (fun q0_ q1_ => absurd (hl_.symm.trans (hcl 4 _ rfl ((up 0 4 (by decide)).symm.trans q0_) 0 rfl)) (by decide)), (fun q0_ => absurd (hl_.symm.trans (hcl 4 _ rfl (hcl 9 _ rfl ((up 0 9 (by decide)).symm.trans q0_) 4 rfl) 0 rfl)) (by decide))⟩, fun i hi hli => ?_⟩
          match i, hi with
          | 0, _ => exact absurd (hl_.symm.trans hli) (by decide)
          | 1, _ => rfl
          | 2, _ => rfl
          | 3, _ => rfl
          | 4, _ => rfl
          | 5, _ => rfl
          | 6, _ => rfl
          | 7, _ => rfl
          | 8, _ => rfl
          | 9, _ => rfl
          | 10, _ => rfl
          | k_ + 11, h_ => exact absurd h_ (by simp)
        | 1, _ => exact stepV rfl rfl (execMvB rfl ((hno 10 _ rfl _ rfl (by cases hq_ : l_ 10 with | false => rfl | true => exact absurd (hl_.symm.trans (hcl 10 _ rfl hq_ 1 rfl)) (by decide))).trans t4)) ⟨s, ⟨_, rfl, rfl⟩, ⟨hT.1, (fun q0_ => (hT.2.1 (by rw [up 1 9 (by decide)] at q0_; exact q0_))), (fun q0_ q1_ => (hT.2.2.1 (by rw [up 1 0 (by decide)] at q0_; exact q0_) (by rw [up 1 4 (by decide)] at q1_; exact q1_))), (fun q0_ => (hT.2.2.2.1 (by rw [up 1 0 (by decide)] at q0_; exact q0_))), (fun q0_ => (hT.2.2.2.2.1 (by rw [up 1 0 (by decide)] at q0_; exact q0_))), (fun q0_ => (hT.2.2.2.2.2.1 (by rw [up 1 0 (by decide)] at q0_; exact q0_))), (fun q0_ q1_ => (hT.2.2.2.2.2.2.1 (by rw [up 1 0 (by decide)] at q0_; exact q0_) (by rw [up 1 9 (by decide)] at q1_; exact q1_))), (fun q0_ q1_ => absurd (hl_.symm.trans (hcl 3 _ rfl (hcl 4 _ rfl ((up 1 4 (by decide)).symm.trans q0_) 3 rfl) 1 rfl)) (by decide)), (fun q0_ => absurd (hl_.symm.trans (hcl 3 _ rfl (hcl 4 _ rfl (hcl 9 _ rfl ((up 1 9 (by decide)).symm.trans q0_) 4 rfl) 3 rfl) 1 rfl)) (by decide))⟩, fun _ _ _ => rfl⟩
        | 2, _ => exact stepV rfl rfl (execMvB rfl ((hf 7 (by decide)).trans t7)) ⟨s, ⟨_, rfl, rfl⟩, ⟨hT.1, (fun q0_ => (hT.2.1 (by rw [up 2 9 (by decide)] at q0_; exact q0_))), (fun q0_ q1_ => (hT.2.2.1 (by rw [up 2 0 (by decide)] at q0_; exact q0_) (by rw [up 2 4 (by decide)] at q1_; exact q1_))), (fun q0_ => (hT.2.2.2.1 (by rw [up 2 0 (by decide)] at q0_; exact q0_))), (fun q0_ => (hT.2.2.2.2.1 (by rw [up 2 0 (by decide)] at q0_; exact q0_))), (fun q0_ => (hT.2.2.2.2.2.1 (by rw [up 2 0 (by decide)] at q0_; exact q0_))), (fun q0_ q1_ => (hT.2.2.2.2.2.2.1 (by rw [up 2 0 (by decide)] at q0_; exact q0_) (by rw [up 2 9 (by decide)] at q1_; exact q1_))), (fun q0_ q1_ => absurd (hl_.symm.trans (hcl 3 _ rfl (hcl 4 _ rfl ((up 2 4 (by decide)).symm.trans q0_) 3 rfl) 2 rfl)) (by decide)), (fun q0_ => absurd (hl_.symm.trans (hcl 3 _ rfl (hcl 4 _ rfl (hcl 9 _ rfl ((up 2 9 (by decide)).symm.trans q0_) 4 rfl) 3 rfl) 2 rfl)) (by decide))⟩, fun _ _ _ => rfl⟩
        | 3, _ => exact stepV rfl rfl (By8.execSlH rfl (hdep _ rfl 1 rfl _ rfl _ rfl) (hdep _ rfl 2 rfl _ rfl _ rfl) (sl_hI gl _ cl _ (by omega) X)) ⟨s, ⟨_, rfl, rfl⟩, ⟨hT.1, (fun q0_ => (hT.2.1 (by rw [up 3 9 (by decide)] at q0_; exact q0_))), (fun q0_ q1_ => (hT.2.2.1 (by rw [up 3 0 (by decide)] at q0_; exact q0_) (by rw [up 3 4 (by decide)] at q1_; exact q1_))), (fun q0_ => (hT.2.2.2.1 (by rw [up 3 0 (by decide)] at q0_; exact q0_))), (fun q0_ => (hT.2.2.2.2.1 (by rw [up 3 0 (by decide)] at q0_; exact q0_))), (fun q0_ => (hT.2.2.2.2.2.1 (by rw [up 3 0 (by decide)] at q0_; exact q0_))), (fun q0_ q1_ => (hT.2.2.2.2.2.2.1 (by rw [up 3 0 (by decide)] at q0_; exact q0_) (by rw [up 3 9 (by decide)] at q1_; exact q1_))), (fun q0_ q1_ => absurd (hl_.symm.trans (hcl 4 _ rfl ((up 3 4 (by decide)).symm.trans q0_) 3 rfl)) (by decide)), (fun q0_ => absurd (hl_.symm.trans (hcl 4 _ rfl (hcl 9 _ rfl ((up 3 9 (by decide)).symm.trans q0_) 4 rfl) 3 rfl)) (by decide))⟩, fun _ _ _ => rfl⟩
        | 4, _ =>
          refine stepAppIs (f := fun _ => 0) (g := fun j => (lf (gN f) n i j : Int)) rfl rfl rfl (hdep _ rfl 0 rfl _ rfl _ rfl) (hdep _ rfl 3 rfl _ rfl _ rfl) (hT.2.2.1 (hl2 _ rfl 0 rfl) hl_) ((hT.2.1 (by cases hq_ : l_ 9 with | false => rfl | true => exact absurd (hl_.symm.trans (hcl 9 _ rfl hq_ 4 rfl)) (by decide))).lo hfit hkl) (fun l c e => by cases e) (by omega) (hT.2.2.2.2.2.2.1 (hl2 _ rfl 0 rfl) (by cases hq_ : l_ 9 with | false => rfl | true => exact absurd (hl_.symm.trans (hcl 9 _ rfl hq_ 4 rfl)) (by decide))) fun v' W' own' gr => ⟨(s.1, s.2.1, v', s.2.2.2), ⟨_, rfl, rfl⟩, ⟨(hT.1).grown gr (hT.1).size (fun k hk => Nat.le_trans (hT.2.2.2.2.2.1 (hl2 _ rfl 0 rfl)) ((hT.2.2.1 (hl2 _ rfl 0 rfl) hl_).lt k hk).1), (fun q0_ => ((hT.2.1 (by rw [up 4 9 (by decide)] at q0_; exact q0_)).over (hT.2.2.2.1 (hl2 _ rfl 0 rfl)) (hT.2.2.2.2.1 (hl2 _ rfl 0 rfl)) (hT.2.2.1 (hl2 _ rfl 0 rfl) hl_) gr)), (fun q0_ q1_ => absurd q1_ (by unfold updB; simp)), (fun q0_ => (hT.2.2.2.1 (by rw [up 4 0 (by decide)] at q0_; exact q0_))), (fun q0_ => (hT.2.2.2.2.1 (by rw [up 4 0 (by decide)] at q0_; exact q0_))), (fun q0_ => (hT.2.2.2.2.2.1 (by rw [up 4 0 (by decide)] at q0_; exact q0_))), (fun q0_ q1_ => (Nat.le_trans (hT.2.2.2.2.2.2.1 (by rw [up 4 0 (by decide)] at q0_; exact q0_) (by rw [up 4 9 (by decide)] at q1_; exact q1_)) gr.size)), (fun _q0_ _q1_ => own_cat0 own'), (fun q0_ => absurd (hl_.symm.trans (hcl 9 _ rfl ((up 4 9 (by decide)).symm.trans q0_) 4 rfl)) (by decide))⟩, fun i hi hli => ?_⟩
          match i, hi with
          | 0, _ => rfl
          | 1, _ => rfl
          | 2, _ => rfl
          | 3, _ => rfl
          | 4, _ => exact absurd (hl_.symm.trans hli) (by decide)
          | 5, _ => rfl
          | 6, _ => rfl
          | 7, _ => rfl
          | 8, _ => rfl
          | 9, _ => rfl
          | 10, _ => rfl
          | k_ + 11, h_ => exact absurd h_ (by simp)
        | 5, _ => exact stepV rfl rfl (execMvB rfl ((hno 10 _ rfl _ rfl (by cases hq_ : l_ 10 with | false => rfl | true => exact absurd (hl_.symm.trans (hcl 10 _ rfl hq_ 5 rfl)) (by decide))).trans t4)) ⟨s, ⟨_, rfl, rfl⟩, ⟨hT.1, (fun q0_ => (hT.2.1 (by rw [up 5 9 (by decide)] at q0_; exact q0_))), (fun q0_ q1_ => (hT.2.2.1 (by rw [up 5 0 (by decide)] at q0_; exact q0_) (by rw [up 5 4 (by decide)] at q1_; exact q1_))), (fun q0_ => (hT.2.2.2.1 (by rw [up 5 0 (by decide)] at q0_; exact q0_))), (fun q0_ => (hT.2.2.2.2.1 (by rw [up 5 0 (by decide)] at q0_; exact q0_))), (fun q0_ => (hT.2.2.2.2.2.1 (by rw [up 5 0 (by decide)] at q0_; exact q0_))), (fun q0_ q1_ => (hT.2.2.2.2.2.2.1 (by rw [up 5 0 (by decide)] at q0_; exact q0_) (by rw [up 5 9 (by decide)] at q1_; exact q1_))), (fun q0_ q1_ => (hT.2.2.2.2.2.2.2.1 (by rw [up 5 4 (by decide)] at q0_; exact q0_) (by rw [up 5 9 (by decide)] at q1_; exact q1_))), (fun q0_ => absurd (hl_.symm.trans (hcl 8 _ rfl (hcl 9 _ rfl ((up 5 9 (by decide)).symm.trans q0_) 8 rfl) 5 rfl)) (by decide))⟩, fun _ _ _ => rfl⟩
        | 6, _ => exact stepV rfl rfl (execMvB rfl ((hf 7 (by decide)).trans t7)) ⟨s, ⟨_, rfl, rfl⟩, ⟨hT.1, (fun q0_ => (hT.2.1 (by rw [up 6 9 (by decide)] at q0_; exact q0_))), (fun q0_ q1_ => (hT.2.2.1 (by rw [up 6 0 (by decide)] at q0_; exact q0_) (by rw [up 6 4 (by decide)] at q1_; exact q1_))), (fun q0_ => (hT.2.2.2.1 (by rw [up 6 0 (by decide)] at q0_; exact q0_))), (fun q0_ => (hT.2.2.2.2.1 (by rw [up 6 0 (by decide)] at q0_; exact q0_))), (fun q0_ => (hT.2.2.2.2.2.1 (by rw [up 6 0 (by decide)] at q0_; exact q0_))), (fun q0_ q1_ => (hT.2.2.2.2.2.2.1 (by rw [up 6 0 (by decide)] at q0_; exact q0_) (by rw [up 6 9 (by decide)] at q1_; exact q1_))), (fun q0_ q1_ => (hT.2.2.2.2.2.2.2.1 (by rw [up 6 4 (by decide)] at q0_; exact q0_) (by rw [up 6 9 (by decide)] at q1_; exact q1_))), (fun q0_ => absurd (hl_.symm.trans (hcl 7 _ rfl (hcl 8 _ rfl (hcl 9 _ rfl ((up 6 9 (by decide)).symm.trans q0_) 8 rfl) 7 rfl) 6 rfl)) (by decide))⟩, fun _ _ _ => rfl⟩
        | 7, _ => exact stepV rfl rfl (execAd8 (p := rkD (gN f) n i) (q := 1) rfl (hdep _ rfl 6 rfl _ rfl _ rfl) rfl (by omega)) ⟨s, ⟨_, rfl, rfl⟩, ⟨hT.1, (fun q0_ => (hT.2.1 (by rw [up 7 9 (by decide)] at q0_; exact q0_))), (fun q0_ q1_ => (hT.2.2.1 (by rw [up 7 0 (by decide)] at q0_; exact q0_) (by rw [up 7 4 (by decide)] at q1_; exact q1_))), (fun q0_ => (hT.2.2.2.1 (by rw [up 7 0 (by decide)] at q0_; exact q0_))), (fun q0_ => (hT.2.2.2.2.1 (by rw [up 7 0 (by decide)] at q0_; exact q0_))), (fun q0_ => (hT.2.2.2.2.2.1 (by rw [up 7 0 (by decide)] at q0_; exact q0_))), (fun q0_ q1_ => (hT.2.2.2.2.2.2.1 (by rw [up 7 0 (by decide)] at q0_; exact q0_) (by rw [up 7 9 (by decide)] at q1_; exact q1_))), (fun q0_ q1_ => (hT.2.2.2.2.2.2.2.1 (by rw [up 7 4 (by decide)] at q0_; exact q0_) (by rw [up 7 9 (by decide)] at q1_; exact q1_))), (fun q0_ => absurd (hl_.symm.trans (hcl 8 _ rfl (hcl 9 _ rfl ((up 7 9 (by decide)).symm.trans q0_) 8 rfl) 7 rfl)) (by decide))⟩, fun _ _ _ => rfl⟩
        | 8, _ => exact stepV rfl rfl (execSlLg rfl (hdep _ rfl 5 rfl _ rfl _ rfl) (hdep _ rfl 7 rfl _ rfl _ rfl) (sl_lI gl _ cl _ hkl X)) ⟨s, ⟨_, rfl, rfl⟩, ⟨hT.1, (fun q0_ => (hT.2.1 (by rw [up 8 9 (by decide)] at q0_; exact q0_))), (fun q0_ q1_ => (hT.2.2.1 (by rw [up 8 0 (by decide)] at q0_; exact q0_) (by rw [up 8 4 (by decide)] at q1_; exact q1_))), (fun q0_ => (hT.2.2.2.1 (by rw [up 8 0 (by decide)] at q0_; exact q0_))), (fun q0_ => (hT.2.2.2.2.1 (by rw [up 8 0 (by decide)] at q0_; exact q0_))), (fun q0_ => (hT.2.2.2.2.2.1 (by rw [up 8 0 (by decide)] at q0_; exact q0_))), (fun q0_ q1_ => (hT.2.2.2.2.2.2.1 (by rw [up 8 0 (by decide)] at q0_; exact q0_) (by rw [up 8 9 (by decide)] at q1_; exact q1_))), (fun q0_ q1_ => (hT.2.2.2.2.2.2.2.1 (by rw [up 8 4 (by decide)] at q0_; exact q0_) (by rw [up 8 9 (by decide)] at q1_; exact q1_))), (fun q0_ => absurd (hl_.symm.trans (hcl 9 _ rfl ((up 8 9 (by decide)).symm.trans q0_) 8 rfl)) (by decide))⟩, fun _ _ _ => rfl⟩
        | 9, _ =>
          refine stepAppIs (f := fun j => (lf (gN f) n i j : Int)) (g := fun j => (fun j => (lf (gN f) n i j : Int)) (rkD (gN f) n i + 1 + j)) rfl rfl rfl (hdep _ rfl 4 rfl _ rfl _ rfl) (hdep _ rfl 8 rfl _ rfl _ rfl) (hT.2.2.2.2.2.2.2.1 (hl2 _ rfl 4 rfl) hl_) ((hT.2.1 hl_).hi hfit hkl) (fun l c e => sl_no e) (by omega) (hT.2.2.2.2.2.2.1 (hcl 4 _ rfl (hl2 _ rfl 4 rfl) 0 rfl) hl_) fun v' W' own' gr => ⟨(s.1, s.2.1, s.2.2.1, v'), ⟨_, rfl, rfl⟩, ⟨(hT.1).grown gr (hT.1).size (fun k hk => Nat.le_trans (hT.2.2.2.2.2.1 (hcl 4 _ rfl (hl2 _ rfl 4 rfl) 0 rfl)) ((hT.2.2.2.2.2.2.2.1 (hl2 _ rfl 4 rfl) hl_).lt k hk).1), (fun q0_ => absurd q0_ (by unfold updB; simp)), (fun q0_ q1_ => absurd (q1_.symm.trans ((up 9 4 (by decide)).trans (hl2 _ rfl 4 rfl))) (by decide)), (fun q0_ => (hT.2.2.2.1 (by rw [up 9 0 (by decide)] at q0_; exact q0_))), (fun q0_ => (hT.2.2.2.2.1 (by rw [up 9 0 (by decide)] at q0_; exact q0_))), (fun q0_ => (hT.2.2.2.2.2.1 (by rw [up 9 0 (by decide)] at q0_; exact q0_))), (fun q0_ q1_ => absurd q1_ (by unfold updB; simp)), (fun q0_ q1_ => absurd q1_ (by unfold updB; simp)), (fun _q0_ => ((hT.2.1 hl_).over (hT.2.2.2.1 (hcl 4 _ rfl (hl2 _ rfl 4 rfl) 0 rfl)) (hT.2.2.2.2.1 (hcl 4 _ rfl (hl2 _ rfl 4 rfl) 0 rfl)) (hT.2.2.2.2.2.2.2.1 (hl2 _ rfl 4 rfl) hl_) gr).new (hT.2.2.2.1 (hcl 4 _ rfl (hl2 _ rfl 4 rfl) 0 rfl)) own' (hT.2.2.2.2.2.1 (hcl 4 _ rfl (hl2 _ rfl 4 rfl) 0 rfl)) (by omega) (fun j _ => lf_next _ _ _ _))⟩, fun i hi hli => ?_⟩
          match i, hi with
          | 0, _ => rfl
          | 1, _ => rfl
          | 2, _ => rfl
          | 3, _ => rfl
          | 4, _ => rfl
          | 5, _ => rfl
          | 6, _ => rfl
          | 7, _ => rfl
          | 8, _ => rfl
          | 9, _ => exact absurd (hl_.symm.trans hli) (by decide)
          | 10, _ => exact absurd (hl_.symm.trans (hcl 10 _ rfl hli 9 rfl)) (by decide)
          | k_ + 11, h_ => exact absurd h_ (by simp)
        | 10, _ => exact stepV rfl rfl (execAsgB rfl (hdep _ rfl 9 rfl _ rfl _ rfl)) ⟨s, ⟨_, rfl, rfl⟩, ⟨hT.1, (fun q0_ => absurd (q0_.symm.trans ((up 10 9 (by decide)).trans (hl2 _ rfl 9 rfl))) (by decide)), (fun q0_ q1_ => absurd (q1_.symm.trans ((up 10 4 (by decide)).trans (hl2 _ rfl 4 rfl))) (by decide)), (fun q0_ => (hT.2.2.2.1 (by rw [up 10 0 (by decide)] at q0_; exact q0_))), (fun q0_ => (hT.2.2.2.2.1 (by rw [up 10 0 (by decide)] at q0_; exact q0_))), (fun q0_ => (hT.2.2.2.2.2.1 (by rw [up 10 0 (by decide)] at q0_; exact q0_))), (fun q0_ q1_ => absurd (q1_.symm.trans ((up 10 9 (by decide)).trans (hl2 _ rfl 9 rfl))) (by decide)), (fun q0_ q1_ => absurd (q1_.symm.trans ((up 10 9 (by decide)).trans (hl2 _ rfl 9 rfl))) (by decide)), (fun q0_ => (hT.2.2.2.2.2.2.2.2 (by rw [up 10 9 (by decide)] at q0_; exact q0_)))⟩, fun _ _ _ => rfl⟩
        | k_ + 11, h_ => exact absurd h_ (by simp)
      rintro l_ ⟨g30, b30, v34, v39⟩ a X10 h1 h2 h3 h4 hall hT
      clear BB
      clear FT2
      obtain ⟨BB, FT2, Fg30, Fb30, Fl30, Fc30, Fs30, Fv34, FT3⟩ := hT
      clear FT2
      clear Fg30
      replace Fb30 : (∀ k, v29.ownBlock = some k → k < b30) := Fb30 (hall 0 (by decide))
      replace Fl30 : (∀ k, (Value.slice (some ⟨gl, 0, none⟩) (n - i) cl).ownBlock = some k → k < b30) := Fl30 (hall 0 (by decide))
      replace Fc30 : (V.heap.size ≤ b30) := Fc30 (hall 0 (by decide))
      clear Fs30
      clear Fv34
      replace FT3 : (Two V X10 v29 (i + 1) (fun j => (rkD (gN f) n j : Int)) v39 (n - (i + 1)) (fun j => (lf (gN f) n (i + 1) j : Int))) := FT3 (hall 9 (by decide))
      clear hall
      replace t0 := (h3 0 (by decide)).trans t0
      replace t4 : a.eval (.tmp 4) = v39 := h4 (10, 4) (by decide)
      replace t5 := (h3 5 (by decide)).trans t5
      replace t6 := (h3 6 (by decide)).trans t6
      replace A := (⟨h1, h2.trans A.2⟩ : a.tmps.size = 41 ∧ a.defers = [])
      clear h1 h2 h3 h4
      clear t7
      refine wp_region_sq (σ := Unit) 41 [(0, 18), (1, 19), (2, 6)] (fun j_ s X => match j_ with | 0 => Below V.heap.size V X ∧ (∀ k, v29.ownBlock = some k → k < b30) ∧ (∀ k, (Value.slice (some ⟨gl, 0, none⟩) (n - i) cl).ownBlock = some k → k < b30) ∧ (V.heap.size ≤ b30) ∧ (Two V X v29 (i + 1) (fun j => (rkD (gN f) n j : Int)) v39 (n - (i + 1)) (fun j => (lf (gN f) n (i + 1) j : Int))) | 1 => Below V.heap.size V X ∧ (∀ k, v29.ownBlock = some k → k < b30) ∧ (∀ k, (Value.slice (some ⟨gl, 0, none⟩) (n - i) cl).ownBlock = some k → k < b30) ∧ (V.heap.size ≤ b30) ∧ (Two V X v29 (i + 1) (fun j => (rkD (gN f) n j : Int)) v39 (n - (i + 1)) (fun j => (lf (gN f) n (i + 1) j : Int))) | 2 => Below V.heap.size V X ∧ (∀ k, v29.ownBlock = some k → k < b30) ∧ (∀ k, (Value.slice (some ⟨gl, 0, none⟩) (n - i) cl).ownBlock = some k → k < b30) ∧ (V.heap.size ≤ b30) ∧ (Two V X v29 (i + 1) (fun j => (rkD (gN f) n j : Int)) v39 (n - (i + 1)) (fun j => (lf (gN f) n (i + 1) j : Int))) | _ => Below V.heap.size V X ∧ (∀ k, v29.ownBlock = some k → k < b30) ∧ (∀ k, (Value.slice (some ⟨gl, 0, none⟩) (n - i) cl).ownBlock = some k → k < b30) ∧ (V.heap.size ≤ b30) ∧ (Two V X v29 (i + 1) (fun j => (rkD (gN f) n j : Int)) v39 (n - (i + 1)) (fun j => (lf (gN f) n (i + 1) j : Int)))) (fun s => fun i_ => match i_ with | 0 => .int .i64 ((i : Nat) : Int) | 1 => .int .i64 ((i + 1 : Nat) : Int) | 2 => .int .i64 ((i + 1 : Nat) : Int) | _ => undef) () A.1 (by kernel_rfl) (by decide) (by decide) ⟨BB, Fb30, Fl30, Fc30, FT3⟩ ?_ ?_
      · intro i_ hi_ s a X hf hv hn hS
        match i_, hi_ with
        | 0, _ => exact stepV rfl rfl (execMvB rfl ((hn 2 (by omega) _ rfl _ rfl).trans t6)) ⟨s, ⟨_, rfl, rfl⟩, hS, fun _ _ => rfl⟩
        | 1, _ => exact stepV rfl rfl (execAd8 (p := i) (q := 1) rfl (hv 0 (by omega) _ rfl _ rfl) rfl (by omega)) ⟨s, ⟨_, rfl, rfl⟩, hS, fun _ _ => rfl⟩
        | 2, _ => exact stepV rfl rfl (execAsgB rfl (hv 1 (by omega) _ rfl _ rfl)) ⟨s, ⟨_, rfl, rfl⟩, hS, fun _ _ => rfl⟩
        | k_ + 3, h_ => exact absurd h_ (by simp)
      rintro _ a X7 h1 h2 h3 h4 hS
      clear BB
      clear Fb30
      clear Fl30
      clear Fc30
      clear FT3
      replace hS : Below V.heap.size V X7 ∧ (∀ k, v29.ownBlock = some k → k < b30) ∧ (∀ k, (Value.slice (some ⟨gl, 0, none⟩) (n - i) cl).ownBlock = some k → k < b30) ∧ (V.heap.size ≤ b30) ∧ (Two V X7 v29 (i + 1) (fun j => (rkD (gN f) n j : Int)) v39 (n - (i + 1)) (fun j => (lf (gN f) n (i + 1) j : Int))) := hS
      obtain ⟨BB, Fb30, Fl30, Fc30, FT3⟩ := hS
      replace t0 := (h3 0 (by decide)).trans t0
      replace t4 := (h3 4 (by decide)).trans t4
      replace t5 := (h3 5 (by decide)).trans t5
      replace t6 : a.eval (.tmp 6) = .int .i64 ((i + 1 : Nat) : Int) := h4 2 _ rfl _ rfl
      replace A := (⟨h1, h2.trans A.2⟩ : a.tmps.size = 41 ∧ a.defers = [])
      clear h1 h2 h3 h4
      exact ⟨⟨i + 1, _, _, hlt, A, t0, t4, t5, t6, BB, FT3⟩, by show n - (intOf (a.eval (.tmp 6))).toNat < n - (intOf (Act.eval _ (.tmp 6))).toNat; rw [t6, es]; show n - (i + 1) < n - i; omega⟩
    · rw [decide_eq_false hlt] at t17
      refine wp_cond_false t17 ?_
      refine wp_exit ?_
      first | refine exit_in ?_ | refine exit_then (exit_in ?_) | refine exit_then (exit_then (exit_in ?_))
      clear t17 es
      have hin : i = n := by omega
      rw [hin] at FT
      have FO := FT.ru
      clear FT
      refine wp_seq ?_
      refine wp_region_sq (σ := Unit) 41 [(0, 40), (1, 2), (2, 3)] (fun j_ s X => match j_ with | 0 => Below V.heap.size V X ∧ (X.ownsRow V.heap.size 3 1 u (n) (intsL (n) (fun j => (rkD (gN f) n j : Int)))) | 1 => Below V.heap.size V X ∧ (X.ownsRow V.heap.size 3 1 u (n) (intsL (n) (fun j => (rkD (gN f) n j : Int)))) | 2 => Below V.heap.size V X ∧ (X.ownsRow V.heap.size 3 1 u (n) (intsL (n) (fun j => (rkD (gN f) n j : Int)))) | _ => Below V.heap.size V X ∧ (X.ownsRow V.heap.size 3 1 u (n) (intsL (n) (fun j => (rkD (gN f) n j : Int))))) (fun s => fun i_ => match i_ with | 0 => u | 1 => u | 2 => .int .i64 ((0 : Nat) : Int) | _ => undef) () A.1 (by kernel_rfl) (by decide) (by decide) ⟨BB, FO⟩ ?_ ?_
      · intro i_ hi_ s a X hf hv hn hS
        match i_, hi_ with
        | 0, _ => exact stepV rfl rfl (execMvB rfl ((hf 5 (by decide)).trans t5)) ⟨s, ⟨_, rfl, rfl⟩, hS, fun _ _ => rfl⟩
        | 1, _ => exact stepV rfl rfl (execAsgB rfl (hv 0 (by omega) _ rfl _ rfl)) ⟨s, ⟨_, rfl, rfl⟩, hS, fun _ _ => rfl⟩
        | 2, _ => exact stepV rfl rfl (execAsgB rfl rfl) ⟨s, ⟨_, rfl, rfl⟩, hS, fun _ _ => rfl⟩
        | k_ + 3, h_ => exact absurd h_ (by simp)
      rintro _ a X11 h1 h2 h3 h4 hS
      clear BB
      clear FO
      replace hS : Below V.heap.size V X11 ∧ (X11.ownsRow V.heap.size 3 1 u (n) (intsL (n) (fun j => (rkD (gN f) n j : Int)))) := hS
      obtain ⟨BB, FO⟩ := hS
      have t2 : a.eval (.tmp 2) = u := h4 1 _ rfl _ rfl
      have t3 : a.eval (.tmp 3) = .int .i64 ((0 : Nat) : Int) := h4 2 _ rfl _ rfl
      replace A := (⟨h1, h2.trans A.2⟩ : a.tmps.size = 41 ∧ a.defers = [])
      clear h1 h2 h3 h4
      clear t0 t4 t5 t6
      have hE : pE f n = 0 := pE_ok hok
      rw [hE, zl_ok]
      refine wp_ret ?_
      refine bodyPost_ret (results_tmp2 rfl _ _ _) A.2 ⟨_, ?_, FO, BB⟩
      show Ending.returned (.tuple #[a.eval (.tmp 2), a.eval (.tmp 3)]) = _
      rw [t2, t3]
  · refine wp_region_sq (σ := Unit) 41 [(0, 8), (1, 9), (2, 10)] (fun j_ s X => match j_ with | 0 => Below V.heap.size V X | 1 => Below V.heap.size V X | 2 => Below V.heap.size V X | _ => Below V.heap.size V X) (fun s => fun i_ => match i_ with | 0 => .slice ia n ic | 1 => .int .i64 ((pE f n : Nat) : Int) | 2 => .bool true | _ => undef) () A.1 (by kernel_rfl) (by decide) (by decide) (BB) ?_ ?_
    · intro i_ hi_ s a X hf hv hn hS
      match i_, hi_ with
      | 0, _ => exact stepV rfl rfl (execMvB rfl ((hf 0 (by decide)).trans t0)) ⟨s, ⟨_, rfl, rfl⟩, hS, fun _ _ => rfl⟩
      | 1, _ => exact stepC rfl rfl (execCall1 Try.func33 (by kernel_rfl) (by kernel_rfl) rfl (hv 0 (by omega) _ rfl _ rfl)) (rcheck f n _ X (FI.on hS) hn17) fun e w' hh => ⟨_, hh.1, s, ⟨_, rfl, rfl⟩, (hS).trans ((hh.2).mono (hS).size), fun _ _ => rfl⟩
      | 2, _ => exact stepV rfl rfl (execDec (execNeN (p := pE f n) (q := 0) rfl (hv 1 (by omega) _ rfl _ rfl) rfl) (decide_eq_true (by have := pE_no hok; omega))) ⟨s, ⟨_, rfl, rfl⟩, hS, fun _ _ => rfl⟩
      | k_ + 3, h_ => exact absurd h_ (by simp)
    rintro _ a X1 h1 h2 h3 h4 hS
    clear BB
    replace hS : Below V.heap.size V X1 := hS
    have BB := hS
    clear hS
    replace t0 := (h3 0 (by decide)).trans t0
    have t10 : a.eval (.tmp 10) = .bool true := h4 2 _ rfl _ rfl
    replace A := (⟨h1, h2.trans A.2⟩ : a.tmps.size = 41 ∧ a.defers = [])
    clear h1 h2 h3 h4
    refine wp_cond_true t10 ?_
    refine wp_seq ?_
    refine wp_region_sq (σ := Unit) 41 [(0, 2), (1, 3)] (fun j_ s X => match j_ with | 0 => Below V.heap.size V X | 1 => Below V.heap.size V X | _ => Below V.heap.size V X) (fun s => fun i_ => match i_ with | 0 => .slice none 0 0 | 1 => .int .i64 ((110 : Nat) : Int) | _ => undef) () A.1 (by kernel_rfl) (by decide) (by decide) (BB) ?_ ?_
    · intro i_ hi_ s a X hf hv hn hS
      match i_, hi_ with
      | 0, _ => exact stepV rfl rfl (execAsgB rfl rfl) ⟨s, ⟨_, rfl, rfl⟩, hS, fun _ _ => rfl⟩
      | 1, _ => exact stepV rfl rfl (execAsgB rfl rfl) ⟨s, ⟨_, rfl, rfl⟩, hS, fun _ _ => rfl⟩
      | k_ + 2, h_ => exact absurd h_ (by simp)
    rintro _ a X2 h1 h2 h3 h4 hS
    clear BB
    replace hS : Below V.heap.size V X2 := hS
    have BB := hS
    clear hS
    have t2 : a.eval (.tmp 2) = .slice none 0 0 := h4 0 _ rfl _ rfl
    have t3 : a.eval (.tmp 3) = .int .i64 ((110 : Nat) : Int) := h4 1 _ rfl _ rfl
    replace A := (⟨h1, h2.trans A.2⟩ : a.tmps.size = 41 ∧ a.defers = [])
    clear h1 h2 h3 h4
    clear t0
    have hE : pE f n = 110 := pE_no hok
    rw [hE, zl_no (by decide)]
    refine wp_ret ?_
    repeat (first | refine ret_in ?_ | refine ret_then ?_)
    refine bodyPost_ret (results_tmp2 rfl _ _ _) A.2 ⟨_, ?_, World.ownsRow_nil _ _ _ _, BB⟩
    show Ending.returned (.tuple #[a.eval (.tmp 2), a.eval (.tmp 3)]) = _
    rw [t2, t3]
end Go.Proofs.Ythiakjmjpchckaa.Prm
