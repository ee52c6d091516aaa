import Derived.Test.YtdecmmcphcomhaaQ9u
import Derived.Test.YtdecmmcphcomhaaQ9r
namespace Go.Proofs.Ytdecmmcphcomhaa.Brd
open Go.RowKit Gf8 Aes By8 Cel Cf Tap Drw Prm
/- Stage 12's BraidPatterns. Written by tools/mkQ9v.py. -/

theorem AskL.at {W : World} {v : Value} {n : Nat} {q : Nat → Nat → Value} {ln : Nat → Nat → Nat} {ff : Nat → Nat → Nat → Int} (h : AskL W v n q ln ff) (hn : 0 < n) : ∃ b o c, v = .slice (some ⟨b, o, none⟩) n c ∧ b < W.heap.size ∧ ∀ i, i < n → ∀ t, t < 4 → W.cell? ⟨b, o + i * 4 + t, none⟩ = some (q i t) := by
  obtain ⟨a, c, rfl, hs⟩ := h.shape
  obtain ⟨b, o, rfl, h1, h2⟩ := hs hn
  exact ⟨b, o, c, rfl, h1, h2⟩
theorem size_ak (a b c d : Value) : (Try.prog.info? 35).map (·.size) = some (akC a b c d).size := by
  show _ = some 4
  kernel_rfl
section
variable {o : Oper} {a : Act} {w : World}
theorem execIdxAk {x i : Operand} {g off n cap k : Nat} (ho : o.op = .indexAddr 33 x i) (hx : a.eval x = .slice (some ⟨g, off, none⟩) n cap) (hi : a.eval i = .int .i64 (k : Int)) (hk : k < n) : (execOp a.eval o).run Try.prog w = .ok (.value (.pointer (some ⟨g, off + k * 4, none⟩))) w := by
  have h1 : (k : Int) < n := by omega
  unfold execOp
  simp only [ho, hx, hi]
  simp [go_sem, h1]
theorem execLdAk {x : Operand} {b f : Nat} {p q r s : Value} (ho : o.op = .load 35 x) (hx : a.eval x = .pointer (some ⟨b, f, none⟩)) (h0 : w.cell? ⟨b, f + 0, none⟩ = some p) (h1 : w.cell? ⟨b, f + 1, none⟩ = some q) (h2 : w.cell? ⟨b, f + 2, none⟩ = some r) (h3 : w.cell? ⟨b, f + 3, none⟩ = some s) : (execOp a.eval o).run Try.prog w = .ok (.value (.agg (akC p q r s))) w := by
  have h := execLoadMid (P := Try.prog) (w := w) (cs := (akC p q r s).toList) ho hx (fun j v hj => by
    match j, hj with
    | 0, hj => exact h0.trans hj
    | 1, hj => exact h1.trans hj
    | 2, hj => exact h2.trans hj
    | 3, hj => exact h3.trans hj
    | j + 4, hj => simp [akC] at hj) Try.underlying35 rfl (size_ak _ _ _ _)
  exact h
theorem execAllAk (ho : o.op = .alloc 35) : (execOp a.eval o).run Try.prog w = .ok (.value (.pointer (some ⟨w.heap.size, 0, none⟩))) (w.alloc (.cells (akC (.slice none 0 0) (.slice none 0 0) (.slice none 0 0) (.slice none 0 0)) 35)) := by
  unfold execOp akC
  simp only [ho]
  simp [go_sem]
theorem execStAk {x y : Operand} {g : Nat} {p q r s : Value} {cur : Array Value} {t : TypeId} (ho : o.op = .store 35 x y) (hx : a.eval x = .pointer (some ⟨g, 0, none⟩)) (hy : a.eval y = .agg (akC p q r s)) (hg : w.heap[g]? = some (.cells cur t)) (h0 : ∃ g n c, p = .slice g n c) (h1 : ∃ g n c, q = .slice g n c) (h2 : ∃ g n c, r = .slice g n c) (h3 : ∃ g n c, s = .slice g n c) (hs : cur.size = 4 := by rfl) :
    (execOp a.eval o).run Try.prog w = .ok .skip (w.setRow g (akC p q r s)) := by
  have h := execStMid (P := Try.prog) ho hx hy hg (by rw [hs]; exact Nat.le_refl _) (size_ak _ _ _ _) (by
    obtain ⟨_, _, _, rfl⟩ := h0
    obtain ⟨_, _, _, rfl⟩ := h1
    obtain ⟨_, _, _, rfl⟩ := h2
    obtain ⟨_, _, _, rfl⟩ := h3
    simp [akC, Value.oneCell'])
  have e : (cur.toList.take 0 ++ (akC p q r s).toList ++ cur.toList.drop (0 + (akC p q r s).size)).toArray = akC p q r s := by
    rw [List.take_zero, List.nil_append, Nat.zero_add, List.drop_of_length_le (by rw [Array.length_toList, hs]; exact Nat.le_refl _), List.append_nil]
  rw [e] at h
  exact h
theorem execLenAk {x : Operand} {v : Value} {len : Nat} (ho : o.op = .call { callee := .builtin .len, args := #[x], argTypes := #[33] }) (hx : a.eval x = v) (hv : ∃ ao c, v = .slice ao len c) : (execOp a.eval o).run Try.prog w = .ok (.value (.int .i64 (len : Int))) w := by
  obtain ⟨ao, c, rfl⟩ := hv
  unfold execOp
  simp only [ho, resolve, invoke, builtin, Sem.run_bind, Sem.run_pure, Result.andThen_ok, List.map_toArray, List.map_cons, List.map_nil, hx]
  simp [go_sem]
end
/-- What lent makes. -/
def CT (f : Nat → Int) (n : Nat) : Nat → Int := catI n f (fun j => if j = 0 then -77 else -78)
def zr (f : Nat → Int) (n i : Nat) : Nat → Int := fun j => if j < i then 0 else CT f n j
def nnA (J m n k t : Nat) : Nat := if t = 0 then J + 2 else if t = 1 then m + 2 else if t = 2 then n + 2 else k + 2
def ffA (f0 f1 f2 f3 : Nat → Int) (t : Nat) : Nat → Int := if t = 0 then f0 else if t = 1 then f1 else if t = 2 then f2 else f3
def nn6 (E m F n t : Nat) : Nat := if t < 4 then zl E m else zl F n
def ff6 (c o d : Nat → Int) (t : Nat) : Nat → Int := if t = 0 ∨ t = 2 then c else if t = 1 ∨ t = 3 then o else d
theorem nn6_le (E m F n t : Nat) : nn6 E m F n t ≤ max m n := by
  unfold nn6
  have := zl_le E m
  have := zl_le F n
  split <;> omega
theorem CT_lo {f : Nat → Int} {n j : Nat} (h : j < n) : CT f n j = f j := if_pos h
theorem CT_fits {f : Nat → Int} {n : Nat} (hf : ∀ j, j < n → -9223372036854775808 ≤ f j ∧ f j < 9223372036854775808) (j : Nat) : -9223372036854775808 ≤ CT f n j ∧ CT f n j < 9223372036854775808 := by
  unfold CT catI
  by_cases h : j < n
  · rw [if_pos h]; exact hf j h
  · rw [if_neg h]
    show _ ≤ (if j - n = 0 then (-77 : Int) else -78) ∧ (if j - n = 0 then (-77 : Int) else -78) < _
    split <;> omega
theorem lent_in {W : World} {B n g c : Nat} {f : Nat → Int} (h : W.ownsRow B 3 1 (.slice (some ⟨g, 0, none⟩) (n + 2) c) (n + 2) (intsL (n + 2) (CT f n))) (hf : ∀ j, j < n → -9223372036854775808 ≤ f j ∧ f j < 9223372036854775808) : SliceI W (.slice (some ⟨g, 0, none⟩) n c) n f := by
  have h1 := own_takeI h (show n ≤ n + 2 by omega)
  rw [intsL_congr (g := f) (fun j hj => CT_lo hj)] at h1
  exact own_ints h1 hf
theorem lent_z {W : World} {B n g c : Nat} {f : Nat → Int} (h : W.ownsRow B 3 1 (.slice (some ⟨g, 0, none⟩) (n + 2) c) (n + 2) (intsL (n + 2) (zr f n n))) : SliceI W (.slice (some ⟨g, 0, none⟩) n c) n (fun _ => 0) := by
  have h1 := own_takeI h (show n ≤ n + 2 by omega)
  rw [intsL_congr (f := zr f n n) (g := fun _ => 0) (fun j hj => if_pos hj)] at h1
  exact own_ints h1 (fun _ _ => by omega)
theorem whole_lent {W : World} {B n g c : Nat} {f : Nat → Int} {lv : Value} (h : W.ownsRow B 3 1 (.slice (some ⟨g, 0, none⟩) (n + 2) c) (n + 2) (intsL (n + 2) (CT f n))) (hv : SliceI W lv n f) (hn : n ≤ 17592186044000) :
    Calls Try.prog 21 #[.slice (some ⟨g, 0, none⟩) (n + 2) c, lv] W fun e w' => e = .returned (.bool true) ∧ Below W.heap.size W w' :=
  whole_any f (CT f n) n g c lv W hv (own_ints h (fun j _ => CT_fits hv.fits j)) (fun j hj => CT_lo hj) (by unfold CT catI; rw [if_neg (by omega)]; show (if n - n = 0 then (-77 : Int) else -78) = -77; rw [Nat.sub_self]; rfl) (by unfold CT catI; rw [if_neg (by omega)]; show (if n + 1 - n = 0 then (-77 : Int) else -78) = -78; rw [if_neg (by omega)]) hn
theorem zr_step (f : Nat → Int) (n i j : Nat) : (if j = i then 0 else zr f n i j) = zr f n (i + 1) j := by
  unfold zr
  by_cases e : j = i
  · rw [if_pos e, if_pos (by omega)]
  · rw [if_neg e]
    by_cases e2 : j < i
    · rw [if_pos e2, if_pos (by omega)]
    · rw [if_neg e2, if_neg (by omega)]
theorem zr_next1 {k : Nat} {nn : Nat → Nat} (f0 f2 f3 : Nat → Int) (f : Nat → Int) (n i : Nat) : ∀ t, t < k → ∀ j, j < nn t → updF (ffA f0 (zr f n i) f2 f3) 1 i 0 t j = ffA f0 (zr f n (i + 1)) f2 f3 t j := fun t _ j _ => by
  by_cases h : t = 1
  · subst h
    rw [updF_at]
    exact zr_step f n i j
  · rw [updF_o h]
    unfold ffA
    by_cases h0 : t = 0
    · rw [if_pos h0, if_pos h0]
    · rw [if_neg h0, if_neg h0, if_neg h, if_neg h]
theorem zr_next3 {nn : Nat → Nat} (f0 f1 f2 : Nat → Int) (f : Nat → Int) (n i : Nat) : ∀ t, t < 4 → ∀ j, j < nn t → updF (ffA f0 f1 f2 (zr f n i)) 3 i 0 t j = ffA f0 f1 f2 (zr f n (i + 1)) t j := fun t ht j _ => by
  by_cases h : t = 3
  · subst h
    rw [updF_at]
    exact zr_step f n i j
  · rw [updF_o h]
    match t, ht, h with
    | 0, _, _ => rfl
    | 1, _, _ => rfl
    | 2, _, _ => rfl
    | 3, _, h => exact absurd rfl h
    | t + 4, h, _ => omega
/-- Two rows more. -/
theorem FmI.add2 {B k C L : Nat} {x : Nat → Value} {nn : Nat → Nat} {ff : Nat → Nat → Int} {r s : Value} {F G : Nat → Int} {W : World} (h : FmI B k x nn ff W) (hlt : ∀ t, t < k → ∀ b, (x t).ownBlock = some b → b < C) (h2 : FmI C 2 (x2 r s) (fun _ => L) (f2 F G) W) (hB : B ≤ C) (eL : nn k = L) (eM : nn (k + 1) = L) (eF : ∀ j, j < L → ff k j = F j) (eG : ∀ j, j < L → ff (k + 1) j = G j) : FmI B (k + 2) (updX (updX x k r) (k + 1) s) nn ff W := by
  have r0 := h2.rows 0 (by omega)
  have r1 := h2.rows 1 (by omega)
  have d01 := h2.dis 0 1 (by omega) (by omega) (by omega)
  have a := FmI.add (r := r) h hlt r0 hB eL eF
  have xo : ∀ t, t < k + 1 → updX (updX x k r) (k + 1) s t = updX x k r t := fun t ht => updX_lt _ _ ht
  have xt : updX (updX x k r) (k + 1) s (k + 1) = s := updX_at _ _ _
  have key : ∀ t, t < k + 1 → ∀ b, (updX x k r t).ownBlock = some b → s.ownBlock ≠ some b := fun t ht b e z => by
    by_cases q : t = k
    · subst q
      rw [updX_at] at e
      exact d01 b e z
    · rw [updX_lt _ _ (by omega)] at e
      have a1 := hlt t (by omega) b e
      have a2 := (r1.lt b z).1
      omega
  refine ⟨fun t ht => ?_, fun u t hu ht hut b e => ?_⟩
  · by_cases q : t = k + 1
    · subst q
      rw [xt, eM, intsL_congr eG]
      exact ownD_base r1 hB
    · rw [xo t (by omega)]
      exact a.rows t (by omega)
  · by_cases q : u = k + 1
    · subst q
      rw [xt] at e
      rw [xo t (by omega)]
      exact fun z => key t (by omega) b z e
    · rw [xo u (by omega)] at e
      by_cases q2 : t = k + 1
      · subst q2
        rw [xt]
        exact key u (by omega) b e
      · rw [xo t (by omega)]
        exact a.dis u t (by omega) (by omega) hut b e
set_option maxRecDepth 100000 in
set_option maxHeartbeats 4000000 in
/-- BraidPatterns. -/
theorem patterns_any (N : Nat) (q : Nat → Nat → Value) (ln : Nat → Nat → Nat) (fa : Nat → Nat → Nat → Int) (v : Value) (V : World) (hA : AskL V v N q ln fa) :
    Calls Try.prog 4 #[v] V fun e w' => e = .returned (.bool true) ∧ Below V.heap.size V w' := by
  have hAv : ∃ ao c, v = .slice ao N c := by obtain ⟨a_, c_, e_, _⟩ := hA.shape; exact ⟨a_, c_, e_⟩
  have hN := hA.size
  go_enter Try.func4, Try.ntmps4
  refine wp_seq ?_
  refine wp_region_sqK 271 [(0, 2)] (fun i_ => match i_ with | 0 => .bool false | _ => undef) rfl (by kernel_rfl) (by decide) (by decide) ?_ ?_
  · intro i_ hi_ a hf hv hn
    match i_, hi_ with
    | 0, _ => exact stepV rfl rfl (execAsgB rfl rfl) ⟨⟨_, rfl, rfl⟩, rfl⟩
    | k_ + 1, h_ => exact absurd h_ (by simp)
  intro a h1 h2 h3 h4
  have t0 : a.eval (.tmp 0) = v := (h3 0 (by decide)).trans rfl
  have A : a.tmps.size = 271 ∧ a.defers = [] := ⟨h1, h2⟩
  have BW : Below V.heap.size V V := Below.refl _ _
  clear h1 h2 h3 h4
  refine wp_seq ?_
  refine wp_seq ?_
  refine wp_region_sq (σ := Unit) 271 [(0, 30), (1, 31)] (fun j_ s X => match j_ with | 0 => Below V.heap.size V X | 1 => Below V.heap.size V X | _ => Below V.heap.size V X) (fun s => fun i_ => match i_ with | 0 => .bool true | 1 => .bool false | _ => undef) () A.1 (by kernel_rfl) (by decide) (by decide) (Below.refl _ _) ?_ ?_
  · intro i_ hi_ s a X hf hv hn hS
    match i_, hi_ with
    | 0, _ => exact stepC rfl rfl (execCall0 Try.func9 (by kernel_rfl) (by kernel_rfl) rfl ) (awake12 X) fun e w' hh => ⟨_, hh.1, s, ⟨_, rfl, rfl⟩, (hS).trans ((hh.2).mono (hS).size), fun _ _ => rfl⟩
    | 1, _ => exact stepV rfl rfl (execNot8 rfl (hv 0 (by decide) _ rfl _ rfl)) ⟨s, ⟨_, rfl, rfl⟩, hS, fun _ _ => rfl⟩
    | k_ + 2, h_ => exact absurd h_ (by simp)
  rintro _ a X1 h1 h2 h3 h4 hS
  replace hS : Below V.heap.size V X1 := hS
  have bX := hS
  clear hS
  replace t0 := (h3 0 (by decide)).trans t0
  have t31 : a.eval (.tmp 31) = .bool false := h4 1 _ rfl _ rfl
  have ZX1 := bX.size
  replace BW := BW.trans (bX.mono BW.size)
  clear bX
  replace A := (⟨h1, h2.trans A.2⟩ : a.tmps.size = 271 ∧ a.defers = [])
  clear h1 h2 h3 h4
  refine wp_cond_false t31 ?_
  refine wp_skip ?_
  clear t31
  refine wp_seq ?_
  refine wp_seq ?_
  refine wp_region_sq (σ := Unit) 271 [(0, 32), (1, 33), (2, 34)] (fun j_ s X => match j_ with | 0 => Below X1.heap.size X1 X | 1 => Below X1.heap.size X1 X | 2 => Below X1.heap.size X1 X | _ => Below X1.heap.size X1 X) (fun s => fun i_ => match i_ with | 0 => v | 1 => .int .i64 ((N : Nat) : Int) | 2 => .int .i64 ((0 : Nat) : Int) | _ => undef) () A.1 (by kernel_rfl) (by decide) (by decide) (Below.refl _ _) ?_ ?_
  · intro i_ hi_ s a X hf hv hn hS
    match i_, hi_ with
    | 0, _ => exact stepV rfl rfl (execMvB rfl ((hf 0 (by decide)).trans t0)) ⟨s, ⟨_, rfl, rfl⟩, hS, fun _ _ => rfl⟩
    | 1, _ => exact stepV rfl rfl (execLenAk (len := N) rfl (hv 0 (by decide) _ rfl _ rfl) hAv) ⟨s, ⟨_, rfl, rfl⟩, hS, fun _ _ => rfl⟩
    | 2, _ => exact stepV rfl rfl (execMvB rfl rfl) ⟨s, ⟨_, rfl, rfl⟩, hS, fun _ _ => rfl⟩
    | k_ + 3, h_ => exact absurd h_ (by simp)
  rintro _ a X3 h1 h2 h3 h4 hS
  replace hS : Below X1.heap.size X1 X3 := hS
  have bX := hS
  clear hS
  have t32 : a.eval (.tmp 32) = v := h4 0 _ rfl _ rfl
  have t33 : a.eval (.tmp 33) = .int .i64 ((N : Nat) : Int) := h4 1 _ rfl _ rfl
  have t34 : a.eval (.tmp 34) = .int .i64 ((0 : Nat) : Int) := h4 2 _ rfl _ rfl
  have ZX3 := bX.size
  replace BW := BW.trans (bX.mono BW.size)
  clear bX
  replace A := (⟨h1, h2.trans A.2⟩ : a.tmps.size = 271 ∧ a.defers = [])
  clear h1 h2 h3 h4
  clear t0
  have BB := BW
  clear BW
  refine wp_block ?_
  refine wp_loop (fun a W => ∃ (i : Nat), i ≤ N ∧ (a.tmps.size = 271 ∧ a.defers = []) ∧ a.eval (.tmp 32) = v ∧ a.eval (.tmp 33) = .int .i64 ((N : Nat) : Int) ∧ a.eval (.tmp 34) = .int .i64 ((i : Nat) : Int) ∧ Below V.heap.size V W) (fun a _ => N - (intOf (a.eval (.tmp 34))).toNat) ⟨0, Nat.zero_le _, A, t32, t33, t34, BB⟩ ?_
  clear A t32 t33 t34 BB a
  rintro a XL4 ⟨i, hi, A, t32, t33, t34, BB⟩
  have esi := t34
  refine wp_seq ?_
  refine wp_region_sq (σ := Unit) 271 [(0, 35)] (fun j_ s X => match j_ with | 0 => Below V.heap.size V X | _ => Below V.heap.size V X) (fun s => fun i_ => match i_ with | 0 => .bool (decide (i < N)) | _ => undef) () A.1 (by kernel_rfl) (by decide) (by decide) (BB) ?_ ?_
  · intro i_ hi_ s a X hf hv hn hS
    match i_, hi_ with
    | 0, _ => exact stepV rfl rfl (execLtW (p := i) (q := N) rfl ((hf 34 (by decide)).trans t34) ((hf 33 (by decide)).trans t33)) ⟨s, ⟨_, rfl, rfl⟩, hS, fun _ _ => rfl⟩
    | k_ + 1, h_ => exact absurd h_ (by simp)
  rintro _ a X4 h1 h2 h3 h4 hS
  clear BB
  replace hS : Below V.heap.size V X4 := hS
  have BB := hS
  clear hS
  replace t32 := (h3 32 (by decide)).trans t32
  replace t33 := (h3 33 (by decide)).trans t33
  replace t34 := (h3 34 (by decide)).trans t34
  have t35 : a.eval (.tmp 35) = .bool (decide (i < N)) := h4 0 _ rfl _ rfl
  replace A := (⟨h1, h2.trans A.2⟩ : a.tmps.size = 271 ∧ a.defers = [])
  clear h1 h2 h3 h4
  refine wp_seq ?_
  by_cases lti : i < N
  · rw [decide_eq_true lti] at t35
    refine wp_cond_true t35 ?_
    refine wp_skip ?_
    clear t35
    refine wp_seq ?_
    refine wp_block ?_
    obtain ⟨ab, ao, ac, ev, hab, hcell⟩ := AskL.at hA (show 0 < N by omega)
    obtain ⟨v0, e0⟩ : ∃ v0, q i 0 = v0 := ⟨_, rfl⟩
    obtain ⟨v1, e1⟩ : ∃ v1, q i 1 = v1 := ⟨_, rfl⟩
    obtain ⟨v2, e2⟩ : ∃ v2, q i 2 = v2 := ⟨_, rfl⟩
    obtain ⟨v3, e3⟩ : ∃ v3, q i 3 = v3 := ⟨_, rfl⟩
    have G0 := hA.lists i lti 0 (by omega)
    have G1 := hA.lists i lti 1 (by omega)
    have G2 := hA.lists i lti 2 (by omega)
    have G3 := hA.lists i lti 3 (by omega)
    rw [e0] at G0
    rw [e1] at G1
    rw [e2] at G2
    rw [e3] at G3
    obtain ⟨J, eJ⟩ : ∃ x_, ln i 0 = x_ := ⟨_, rfl⟩
    obtain ⟨sf, esf⟩ : ∃ x_, fa i 0 = x_ := ⟨_, rfl⟩
    rw [eJ, esf] at G0
    obtain ⟨FI0, hb0, hz0⟩ := G0
    have hf0 := FI0.fits
    replace FI0 := FI0.on BB
    clear eJ esf
    obtain ⟨m, em⟩ : ∃ x_, ln i 1 = x_ := ⟨_, rfl⟩
    obtain ⟨df, edf⟩ : ∃ x_, fa i 1 = x_ := ⟨_, rfl⟩
    rw [em, edf] at G1
    obtain ⟨FI1, hb1, hz1⟩ := G1
    have hf1 := FI1.fits
    replace FI1 := FI1.on BB
    clear em edf
    obtain ⟨n, en⟩ : ∃ x_, ln i 2 = x_ := ⟨_, rfl⟩
    obtain ⟨cf, ecf⟩ : ∃ x_, fa i 2 = x_ := ⟨_, rfl⟩
    rw [en, ecf] at G2
    obtain ⟨FI2, hb2, hz2⟩ := G2
    have hf2 := FI2.fits
    replace FI2 := FI2.on BB
    clear en ecf
    obtain ⟨k, ek⟩ : ∃ x_, ln i 3 = x_ := ⟨_, rfl⟩
    obtain ⟨vf, evf⟩ : ∃ x_, fa i 3 = x_ := ⟨_, rfl⟩
    rw [ek, evf] at G3
    obtain ⟨FI3, hb3, hz3⟩ := G3
    have hf3 := FI3.fits
    replace FI3 := FI3.on BB
    clear ek evf
    have cq : ∀ X, Below V.heap.size V X → ∀ t, t < 4 → X.cell? ⟨ab, ao + i * 4 + t, none⟩ = some (q i t) := fun X hX t ht => by rw [cell_below hX hab]; exact hcell i lti t ht
    have BW := BB
    clear BB
    have sh0 : ∃ g n c, v0 = .slice g n c := (by obtain ⟨g_, c_, e_⟩ := FI0.shp; exact ⟨g_, _, c_, e_⟩)
    have sh1 : ∃ g n c, v1 = .slice g n c := (by obtain ⟨g_, c_, e_⟩ := FI1.shp; exact ⟨g_, _, c_, e_⟩)
    have sh2 : ∃ g n c, v2 = .slice g n c := (by obtain ⟨g_, c_, e_⟩ := FI2.shp; exact ⟨g_, _, c_, e_⟩)
    have sh3 : ∃ g n c, v3 = .slice g n c := (by obtain ⟨g_, c_, e_⟩ := FI3.shp; exact ⟨g_, _, c_, e_⟩)
    refine wp_seq ?_
    refine wp_region_sq (σ := Nat) 271 [(0, 36), (1, 37), (2, 4)] (fun j_ s X => match j_ with | 0 => Below X4.heap.size X4 X | 1 => Below X4.heap.size X4 X | 2 => Below X4.heap.size X4 X | 3 => Below X4.heap.size X4 X ∧ (X.heap[s]? = some (.cells (akC (.slice none 0 0) (.slice none 0 0) (.slice none 0 0) (.slice none 0 0)) 35)) ∧ (X4.heap.size ≤ s) | _ => Below X4.heap.size X4 X ∧ (X4.heap.size ≤ s) ∧ (X.heap[s]? = some (.cells (akC v0 v1 v2 v3) 35))) (fun s => fun i_ => match i_ with | 0 => .pointer (some ⟨ab, ao + i * 4, none⟩) | 1 => .agg (akC v0 v1 v2 v3) | 2 => .pointer (some ⟨s, 0, none⟩) | 3 => undef | _ => undef) 0 A.1 (by kernel_rfl) (by decide) (by decide) (Below.refl _ _) ?_ ?_
    · intro i_ hi_ s a X hf hv hn hS
      match i_, hi_ with
      | 0, _ => exact stepV rfl rfl (execIdxAk (k := i) rfl (((hf 32 (by decide)).trans t32).trans ev) ((hf 34 (by decide)).trans t34) lti) ⟨s, ⟨_, rfl, rfl⟩, hS, fun _ _ => rfl⟩
      | 1, _ => exact stepV rfl rfl (execLdAk rfl (hv 0 (by decide) _ rfl _ rfl) (e0 ▸ cq X (BW.trans ((hS).mono BW.size)) 0 (by omega)) (e1 ▸ cq X (BW.trans ((hS).mono BW.size)) 1 (by omega)) (e2 ▸ cq X (BW.trans ((hS).mono BW.size)) 2 (by omega)) (e3 ▸ cq X (BW.trans ((hS).mono BW.size)) 3 (by omega))) ⟨s, ⟨_, rfl, rfl⟩, hS, fun _ _ => rfl⟩
      | 2, _ =>
        refine stepV rfl rfl (execAllAk rfl) ⟨X.heap.size, ⟨_, rfl, rfl⟩, ⟨(hS).trans (((belNew X _)).mono (hS).size), heapNew X _, (hS).size⟩, fun i hi => ?_⟩
        match i, hi with
        | 0, _ => rfl
        | 1, _ => rfl
        | n_ + 2, h_ => omega
      | 3, _ =>
        refine stepS rfl rfl (execStAk rfl (hv 2 (by decide) _ rfl _ rfl) (hv 1 (by decide) _ rfl _ rfl) hS.2.1 sh0 sh1 sh2 sh3) ⟨s, ⟨_, rfl, rfl⟩, ⟨below4 hS.1 hS.2.2 _, hS.2.2, setRow_heap _ _ _ _ _ _ hS.2.1⟩, fun i hi => ?_⟩
        match i, hi with
        | 0, _ => rfl
        | 1, _ => rfl
        | 2, _ => rfl
        | n_ + 3, h_ => omega
      | k_ + 4, h_ => exact absurd h_ (by simp)
    rintro gq a X5 h1 h2 h3 h4 hS
    replace hS : Below X4.heap.size X4 X5 ∧ (X4.heap.size ≤ gq) ∧ (X5.heap[gq]? = some (.cells (akC v0 v1 v2 v3) 35)) := hS
    obtain ⟨bX, Fgq, FQ⟩ := hS
    replace t32 := (h3 32 (by decide)).trans t32
    replace t33 := (h3 33 (by decide)).trans t33
    replace t34 := (h3 34 (by decide)).trans t34
    have t4 : a.eval (.tmp 4) = .pointer (some ⟨gq, 0, none⟩) := h4 2 _ rfl _ rfl
    replace FI0 := (FI0.on bX)
    replace FI1 := (FI1.on bX)
    replace FI2 := (FI2.on bX)
    replace FI3 := (FI3.on bX)
    have ZX5 := bX.size
    replace BW := BW.trans (bX.mono BW.size)
    clear bX
    replace A := (⟨h1, h2.trans A.2⟩ : a.tmps.size = 271 ∧ a.defers = [])
    clear h1 h2 h3 h4
    clear Fgq
    have hV5 := BW.size
    have BB : Below X5.heap.size X5 X5 := Below.refl _ _
    have FM0 : FmI X5.heap.size 0 (fun _ => undef) (nnA J m n k) (ffA (CT sf J) (CT df m) (CT cf n) (CT vf k)) X5 := ⟨fun t ht => absurd ht (Nat.not_lt_zero _), fun s t hs => absurd hs (Nat.not_lt_zero _)⟩
    refine wp_seq ?_
    refine wp_region_sq (σ := Nat × Nat) 271 [(0, 39), (1, 40), (2, 41), (3, 38), (4, 42), (5, 43), (6, 5), (7, 6)] (fun j_ s X => match j_ with | 0 => Below X5.heap.size X5 X ∧ (FmI X5.heap.size 0 (fun _ => undef) (nnA J m n k) (ffA (CT sf J) (CT df m) (CT cf n) (CT vf k)) X) | 1 => Below X5.heap.size X5 X ∧ (FmI X5.heap.size 0 (fun _ => undef) (nnA J m n k) (ffA (CT sf J) (CT df m) (CT cf n) (CT vf k)) X) | 2 => Below X5.heap.size X5 X ∧ (FmI X5.heap.size 0 (fun _ => undef) (nnA J m n k) (ffA (CT sf J) (CT df m) (CT cf n) (CT vf k)) X) | 3 => Below X5.heap.size X5 X ∧ (FmI X5.heap.size 1 (updX (fun _ => undef) 0 (.slice (some ⟨s.1, 0, none⟩) (J + 2) s.2)) (nnA J m n k) (ffA (CT sf J) (CT df m) (CT cf n) (CT vf k)) X) | 4 => Below X5.heap.size X5 X ∧ (FmI X5.heap.size 1 (updX (fun _ => undef) 0 (.slice (some ⟨s.1, 0, none⟩) (J + 2) s.2)) (nnA J m n k) (ffA (CT sf J) (CT df m) (CT cf n) (CT vf k)) X) | 5 => Below X5.heap.size X5 X ∧ (FmI X5.heap.size 1 (updX (fun _ => undef) 0 (.slice (some ⟨s.1, 0, none⟩) (J + 2) s.2)) (nnA J m n k) (ffA (CT sf J) (CT df m) (CT cf n) (CT vf k)) X) | 6 => Below X5.heap.size X5 X ∧ (FmI X5.heap.size 1 (updX (fun _ => undef) 0 (.slice (some ⟨s.1, 0, none⟩) (J + 2) s.2)) (nnA J m n k) (ffA (CT sf J) (CT df m) (CT cf n) (CT vf k)) X) | 7 => Below X5.heap.size X5 X ∧ (FmI X5.heap.size 1 (updX (fun _ => undef) 0 (.slice (some ⟨s.1, 0, none⟩) (J + 2) s.2)) (nnA J m n k) (ffA (CT sf J) (CT df m) (CT cf n) (CT vf k)) X) | _ => Below X5.heap.size X5 X ∧ (FmI X5.heap.size 1 (updX (fun _ => undef) 0 (.slice (some ⟨s.1, 0, none⟩) (J + 2) s.2)) (nnA J m n k) (ffA (CT sf J) (CT df m) (CT cf n) (CT vf k)) X)) (fun s => fun i_ => match i_ with | 0 => .pointer (some ⟨gq, 0, none⟩) | 1 => v0 | 2 => .tuple #[.slice (some ⟨s.1, 0, none⟩) J s.2, .slice (some ⟨s.1, 0, none⟩) (J + 2) s.2] | 3 => .tuple #[.slice (some ⟨s.1, 0, none⟩) J s.2, .slice (some ⟨s.1, 0, none⟩) (J + 2) s.2] | 4 => .slice (some ⟨s.1, 0, none⟩) J s.2 | 5 => .slice (some ⟨s.1, 0, none⟩) (J + 2) s.2 | 6 => .slice (some ⟨s.1, 0, none⟩) J s.2 | 7 => .slice (some ⟨s.1, 0, none⟩) (J + 2) s.2 | _ => undef) (0, 0) A.1 (by kernel_rfl) (by decide) (by decide) ⟨BB, FM0⟩ ?_ ?_
    · intro i_ hi_ s a X hf hv hn hS
      match i_, hi_ with
      | 0, _ => exact stepV rfl rfl (execFldAk0 rfl ((hf 4 (by decide)).trans t4)) ⟨s, ⟨_, rfl, rfl⟩, hS, fun _ _ => rfl⟩
      | 1, _ => exact stepV rfl rfl (execLdLI (v := v0) rfl (hv 0 (by decide) _ rfl _ rfl) (ak_at0 (on9 FQ hS.1))) ⟨s, ⟨_, rfl, rfl⟩, hS, fun _ _ => rfl⟩
      | 2, _ =>
        refine stepC rfl rfl (execCall1 Try.func16 (by kernel_rfl) (by kernel_rfl) rfl (hv 1 (by decide) _ rfl _ rfl)) (lent_any sf J _ X (FI0.on hS.1) hz0 (by omega)) fun e w' hh => ?_
        obtain ⟨r0_, r1_, he, hk, hb⟩ := hh
        refine ⟨_, he, (r0_, r1_), ⟨_, rfl, rfl⟩, ⟨(hS.1).trans ((hb).mono (hS.1).size), FmI.add (hS.2.on hb) (fun t ht b e => ((hS.2.rows t ht).lt b e).2) hk (hS.1).size rfl (fun j hj => rfl)⟩, fun i hi => ?_⟩
        match i, hi with
        | 0, _ => rfl
        | 1, _ => rfl
        | n_ + 2, h_ => omega
      | 3, _ => exact stepV rfl rfl (execMvB rfl (hv 2 (by decide) _ rfl _ rfl)) ⟨s, ⟨_, rfl, rfl⟩, hS, fun _ _ => rfl⟩
      | 4, _ => exact stepV rfl rfl (execExtT rfl (hv 3 (by decide) _ rfl _ rfl) rfl) ⟨s, ⟨_, rfl, rfl⟩, hS, fun _ _ => rfl⟩
      | 5, _ => exact stepV rfl rfl (execExtT rfl (hv 3 (by decide) _ rfl _ rfl) rfl) ⟨s, ⟨_, rfl, rfl⟩, hS, fun _ _ => rfl⟩
      | 6, _ => exact stepV rfl rfl (execAsgB rfl (hv 4 (by decide) _ rfl _ rfl)) ⟨s, ⟨_, rfl, rfl⟩, hS, fun _ _ => rfl⟩
      | 7, _ => exact stepV rfl rfl (execAsgB rfl (hv 5 (by decide) _ rfl _ rfl)) ⟨s, ⟨_, rfl, rfl⟩, hS, fun _ _ => rfl⟩
      | k_ + 8, h_ => exact absurd h_ (by simp)
    rintro ⟨g41, c41⟩ a X6 h1 h2 h3 h4 hS
    clear BB
    clear FM0
    replace hS : Below X5.heap.size X5 X6 ∧ (FmI X5.heap.size 1 (updX (fun _ => undef) 0 (.slice (some ⟨g41, 0, none⟩) (J + 2) c41)) (nnA J m n k) (ffA (CT sf J) (CT df m) (CT cf n) (CT vf k)) X6) := hS
    obtain ⟨BB, FM1⟩ := hS
    replace t32 := (h3 32 (by decide)).trans t32
    replace t33 := (h3 33 (by decide)).trans t33
    replace t34 := (h3 34 (by decide)).trans t34
    replace t4 := (h3 4 (by decide)).trans t4
    have t5 : a.eval (.tmp 5) = .slice (some ⟨g41, 0, none⟩) J c41 := h4 6 _ rfl _ rfl
    have t6 : a.eval (.tmp 6) = .slice (some ⟨g41, 0, none⟩) (J + 2) c41 := h4 7 _ rfl _ rfl
    replace A := (⟨h1, h2.trans A.2⟩ : a.tmps.size = 271 ∧ a.defers = [])
    clear h1 h2 h3 h4
    refine wp_seq ?_
    refine wp_region_sq (σ := Nat × Nat) 271 [(0, 45), (1, 46), (2, 47), (3, 44), (4, 48), (5, 49), (6, 7), (7, 8)] (fun j_ s X => match j_ with | 0 => Below X5.heap.size X5 X ∧ (FmI X5.heap.size 1 (updX (fun _ => undef) 0 (.slice (some ⟨g41, 0, none⟩) (J + 2) c41)) (nnA J m n k) (ffA (CT sf J) (CT df m) (CT cf n) (CT vf k)) X) | 1 => Below X5.heap.size X5 X ∧ (FmI X5.heap.size 1 (updX (fun _ => undef) 0 (.slice (some ⟨g41, 0, none⟩) (J + 2) c41)) (nnA J m n k) (ffA (CT sf J) (CT df m) (CT cf n) (CT vf k)) X) | 2 => Below X5.heap.size X5 X ∧ (FmI X5.heap.size 1 (updX (fun _ => undef) 0 (.slice (some ⟨g41, 0, none⟩) (J + 2) c41)) (nnA J m n k) (ffA (CT sf J) (CT df m) (CT cf n) (CT vf k)) X) | 3 => Below X5.heap.size X5 X ∧ (FmI X5.heap.size 2 (updX (updX (fun _ => undef) 0 (.slice (some ⟨g41, 0, none⟩) (J + 2) c41)) 1 (.slice (some ⟨s.1, 0, none⟩) (m + 2) s.2)) (nnA J m n k) (ffA (CT sf J) (CT df m) (CT cf n) (CT vf k)) X) | 4 => Below X5.heap.size X5 X ∧ (FmI X5.heap.size 2 (updX (updX (fun _ => undef) 0 (.slice (some ⟨g41, 0, none⟩) (J + 2) c41)) 1 (.slice (some ⟨s.1, 0, none⟩) (m + 2) s.2)) (nnA J m n k) (ffA (CT sf J) (CT df m) (CT cf n) (CT vf k)) X) | 5 => Below X5.heap.size X5 X ∧ (FmI X5.heap.size 2 (updX (updX (fun _ => undef) 0 (.slice (some ⟨g41, 0, none⟩) (J + 2) c41)) 1 (.slice (some ⟨s.1, 0, none⟩) (m + 2) s.2)) (nnA J m n k) (ffA (CT sf J) (CT df m) (CT cf n) (CT vf k)) X) | 6 => Below X5.heap.size X5 X ∧ (FmI X5.heap.size 2 (updX (updX (fun _ => undef) 0 (.slice (some ⟨g41, 0, none⟩) (J + 2) c41)) 1 (.slice (some ⟨s.1, 0, none⟩) (m + 2) s.2)) (nnA J m n k) (ffA (CT sf J) (CT df m) (CT cf n) (CT vf k)) X) | 7 => Below X5.heap.size X5 X ∧ (FmI X5.heap.size 2 (updX (updX (fun _ => undef) 0 (.slice (some ⟨g41, 0, none⟩) (J + 2) c41)) 1 (.slice (some ⟨s.1, 0, none⟩) (m + 2) s.2)) (nnA J m n k) (ffA (CT sf J) (CT df m) (CT cf n) (CT vf k)) X) | _ => Below X5.heap.size X5 X ∧ (FmI X5.heap.size 2 (updX (updX (fun _ => undef) 0 (.slice (some ⟨g41, 0, none⟩) (J + 2) c41)) 1 (.slice (some ⟨s.1, 0, none⟩) (m + 2) s.2)) (nnA J m n k) (ffA (CT sf J) (CT df m) (CT cf n) (CT vf k)) X)) (fun s => fun i_ => match i_ with | 0 => .pointer (some ⟨gq, 1, none⟩) | 1 => v1 | 2 => .tuple #[.slice (some ⟨s.1, 0, none⟩) m s.2, .slice (some ⟨s.1, 0, none⟩) (m + 2) s.2] | 3 => .tuple #[.slice (some ⟨s.1, 0, none⟩) m s.2, .slice (some ⟨s.1, 0, none⟩) (m + 2) s.2] | 4 => .slice (some ⟨s.1, 0, none⟩) m s.2 | 5 => .slice (some ⟨s.1, 0, none⟩) (m + 2) s.2 | 6 => .slice (some ⟨s.1, 0, none⟩) m s.2 | 7 => .slice (some ⟨s.1, 0, none⟩) (m + 2) s.2 | _ => undef) (0, 0) A.1 (by kernel_rfl) (by decide) (by decide) ⟨BB, FM1⟩ ?_ ?_
    · intro i_ hi_ s a X hf hv hn hS
      match i_, hi_ with
      | 0, _ => exact stepV rfl rfl (execFldAk1 rfl ((hf 4 (by decide)).trans t4)) ⟨s, ⟨_, rfl, rfl⟩, hS, fun _ _ => rfl⟩
      | 1, _ => exact stepV rfl rfl (execLdLI (v := v1) rfl (hv 0 (by decide) _ rfl _ rfl) (ak_at1 (on9 FQ hS.1))) ⟨s, ⟨_, rfl, rfl⟩, hS, fun _ _ => rfl⟩
      | 2, _ =>
        refine stepC rfl rfl (execCall1 Try.func16 (by kernel_rfl) (by kernel_rfl) rfl (hv 1 (by decide) _ rfl _ rfl)) (lent_any df m _ X (FI1.on hS.1) hz1 (by omega)) fun e w' hh => ?_
        obtain ⟨r0_, r1_, he, hk, hb⟩ := hh
        refine ⟨_, he, (r0_, r1_), ⟨_, rfl, rfl⟩, ⟨(hS.1).trans ((hb).mono (hS.1).size), FmI.add (hS.2.on hb) (fun t ht b e => ((hS.2.rows t ht).lt b e).2) hk (hS.1).size rfl (fun j hj => rfl)⟩, fun i hi => ?_⟩
        match i, hi with
        | 0, _ => rfl
        | 1, _ => rfl
        | n_ + 2, h_ => omega
      | 3, _ => exact stepV rfl rfl (execMvB rfl (hv 2 (by decide) _ rfl _ rfl)) ⟨s, ⟨_, rfl, rfl⟩, hS, fun _ _ => rfl⟩
      | 4, _ => exact stepV rfl rfl (execExtT rfl (hv 3 (by decide) _ rfl _ rfl) rfl) ⟨s, ⟨_, rfl, rfl⟩, hS, fun _ _ => rfl⟩
      | 5, _ => exact stepV rfl rfl (execExtT rfl (hv 3 (by decide) _ rfl _ rfl) rfl) ⟨s, ⟨_, rfl, rfl⟩, hS, fun _ _ => rfl⟩
      | 6, _ => exact stepV rfl rfl (execAsgB rfl (hv 4 (by decide) _ rfl _ rfl)) ⟨s, ⟨_, rfl, rfl⟩, hS, fun _ _ => rfl⟩
      | 7, _ => exact stepV rfl rfl (execAsgB rfl (hv 5 (by decide) _ rfl _ rfl)) ⟨s, ⟨_, rfl, rfl⟩, hS, fun _ _ => rfl⟩
      | k_ + 8, h_ => exact absurd h_ (by simp)
    rintro ⟨g47, c47⟩ a X7 h1 h2 h3 h4 hS
    clear BB
    clear FM1
    replace hS : Below X5.heap.size X5 X7 ∧ (FmI X5.heap.size 2 (updX (updX (fun _ => undef) 0 (.slice (some ⟨g41, 0, none⟩) (J + 2) c41)) 1 (.slice (some ⟨g47, 0, none⟩) (m + 2) c47)) (nnA J m n k) (ffA (CT sf J) (CT df m) (CT cf n) (CT vf k)) X7) := hS
    obtain ⟨BB, FM2⟩ := hS
    replace t32 := (h3 32 (by decide)).trans t32
    replace t33 := (h3 33 (by decide)).trans t33
    replace t34 := (h3 34 (by decide)).trans t34
    replace t4 := (h3 4 (by decide)).trans t4
    replace t5 := (h3 5 (by decide)).trans t5
    replace t6 := (h3 6 (by decide)).trans t6
    have t7 : a.eval (.tmp 7) = .slice (some ⟨g47, 0, none⟩) m c47 := h4 6 _ rfl _ rfl
    have t8 : a.eval (.tmp 8) = .slice (some ⟨g47, 0, none⟩) (m + 2) c47 := h4 7 _ rfl _ rfl
    replace A := (⟨h1, h2.trans A.2⟩ : a.tmps.size = 271 ∧ a.defers = [])
    clear h1 h2 h3 h4
    refine wp_seq ?_
    refine wp_region_sq (σ := Nat × Nat) 271 [(0, 51), (1, 52), (2, 53), (3, 50), (4, 54), (5, 55), (6, 9), (7, 10)] (fun j_ s X => match j_ with | 0 => Below X5.heap.size X5 X ∧ (FmI X5.heap.size 2 (updX (updX (fun _ => undef) 0 (.slice (some ⟨g41, 0, none⟩) (J + 2) c41)) 1 (.slice (some ⟨g47, 0, none⟩) (m + 2) c47)) (nnA J m n k) (ffA (CT sf J) (CT df m) (CT cf n) (CT vf k)) X) | 1 => Below X5.heap.size X5 X ∧ (FmI X5.heap.size 2 (updX (updX (fun _ => undef) 0 (.slice (some ⟨g41, 0, none⟩) (J + 2) c41)) 1 (.slice (some ⟨g47, 0, none⟩) (m + 2) c47)) (nnA J m n k) (ffA (CT sf J) (CT df m) (CT cf n) (CT vf k)) X) | 2 => Below X5.heap.size X5 X ∧ (FmI X5.heap.size 2 (updX (updX (fun _ => undef) 0 (.slice (some ⟨g41, 0, none⟩) (J + 2) c41)) 1 (.slice (some ⟨g47, 0, none⟩) (m + 2) c47)) (nnA J m n k) (ffA (CT sf J) (CT df m) (CT cf n) (CT vf k)) X) | 3 => Below X5.heap.size X5 X ∧ (FmI X5.heap.size 3 (updX (updX (updX (fun _ => undef) 0 (.slice (some ⟨g41, 0, none⟩) (J + 2) c41)) 1 (.slice (some ⟨g47, 0, none⟩) (m + 2) c47)) 2 (.slice (some ⟨s.1, 0, none⟩) (n + 2) s.2)) (nnA J m n k) (ffA (CT sf J) (CT df m) (CT cf n) (CT vf k)) X) | 4 => Below X5.heap.size X5 X ∧ (FmI X5.heap.size 3 (updX (updX (updX (fun _ => undef) 0 (.slice (some ⟨g41, 0, none⟩) (J + 2) c41)) 1 (.slice (some ⟨g47, 0, none⟩) (m + 2) c47)) 2 (.slice (some ⟨s.1, 0, none⟩) (n + 2) s.2)) (nnA J m n k) (ffA (CT sf J) (CT df m) (CT cf n) (CT vf k)) X) | 5 => Below X5.heap.size X5 X ∧ (FmI X5.heap.size 3 (updX (updX (updX (fun _ => undef) 0 (.slice (some ⟨g41, 0, none⟩) (J + 2) c41)) 1 (.slice (some ⟨g47, 0, none⟩) (m + 2) c47)) 2 (.slice (some ⟨s.1, 0, none⟩) (n + 2) s.2)) (nnA J m n k) (ffA (CT sf J) (CT df m) (CT cf n) (CT vf k)) X) | 6 => Below X5.heap.size X5 X ∧ (FmI X5.heap.size 3 (updX (updX (updX (fun _ => undef) 0 (.slice (some ⟨g41, 0, none⟩) (J + 2) c41)) 1 (.slice (some ⟨g47, 0, none⟩) (m + 2) c47)) 2 (.slice (some ⟨s.1, 0, none⟩) (n + 2) s.2)) (nnA J m n k) (ffA (CT sf J) (CT df m) (CT cf n) (CT vf k)) X) | 7 => Below X5.heap.size X5 X ∧ (FmI X5.heap.size 3 (updX (updX (updX (fun _ => undef) 0 (.slice (some ⟨g41, 0, none⟩) (J + 2) c41)) 1 (.slice (some ⟨g47, 0, none⟩) (m + 2) c47)) 2 (.slice (some ⟨s.1, 0, none⟩) (n + 2) s.2)) (nnA J m n k) (ffA (CT sf J) (CT df m) (CT cf n) (CT vf k)) X) | _ => Below X5.heap.size X5 X ∧ (FmI X5.heap.size 3 (updX (updX (updX (fun _ => undef) 0 (.slice (some ⟨g41, 0, none⟩) (J + 2) c41)) 1 (.slice (some ⟨g47, 0, none⟩) (m + 2) c47)) 2 (.slice (some ⟨s.1, 0, none⟩) (n + 2) s.2)) (nnA J m n k) (ffA (CT sf J) (CT df m) (CT cf n) (CT vf k)) X)) (fun s => fun i_ => match i_ with | 0 => .pointer (some ⟨gq, 2, none⟩) | 1 => v2 | 2 => .tuple #[.slice (some ⟨s.1, 0, none⟩) n s.2, .slice (some ⟨s.1, 0, none⟩) (n + 2) s.2] | 3 => .tuple #[.slice (some ⟨s.1, 0, none⟩) n s.2, .slice (some ⟨s.1, 0, none⟩) (n + 2) s.2] | 4 => .slice (some ⟨s.1, 0, none⟩) n s.2 | 5 => .slice (some ⟨s.1, 0, none⟩) (n + 2) s.2 | 6 => .slice (some ⟨s.1, 0, none⟩) n s.2 | 7 => .slice (some ⟨s.1, 0, none⟩) (n + 2) s.2 | _ => undef) (0, 0) A.1 (by kernel_rfl) (by decide) (by decide) ⟨BB, FM2⟩ ?_ ?_
    · intro i_ hi_ s a X hf hv hn hS
      match i_, hi_ with
      | 0, _ => exact stepV rfl rfl (execFldAk2 rfl ((hf 4 (by decide)).trans t4)) ⟨s, ⟨_, rfl, rfl⟩, hS, fun _ _ => rfl⟩
      | 1, _ => exact stepV rfl rfl (execLdLI (v := v2) rfl (hv 0 (by decide) _ rfl _ rfl) (ak_at2 (on9 FQ hS.1))) ⟨s, ⟨_, rfl, rfl⟩, hS, fun _ _ => rfl⟩
      | 2, _ =>
        refine stepC rfl rfl (execCall1 Try.func16 (by kernel_rfl) (by kernel_rfl) rfl (hv 1 (by decide) _ rfl _ rfl)) (lent_any cf n _ X (FI2.on hS.1) hz2 (by omega)) fun e w' hh => ?_
        obtain ⟨r0_, r1_, he, hk, hb⟩ := hh
        refine ⟨_, he, (r0_, r1_), ⟨_, rfl, rfl⟩, ⟨(hS.1).trans ((hb).mono (hS.1).size), FmI.add (hS.2.on hb) (fun t ht b e => ((hS.2.rows t ht).lt b e).2) hk (hS.1).size rfl (fun j hj => rfl)⟩, fun i hi => ?_⟩
        match i, hi with
        | 0, _ => rfl
        | 1, _ => rfl
        | n_ + 2, h_ => omega
      | 3, _ => exact stepV rfl rfl (execMvB rfl (hv 2 (by decide) _ rfl _ rfl)) ⟨s, ⟨_, rfl, rfl⟩, hS, fun _ _ => rfl⟩
      | 4, _ => exact stepV rfl rfl (execExtT rfl (hv 3 (by decide) _ rfl _ rfl) rfl) ⟨s, ⟨_, rfl, rfl⟩, hS, fun _ _ => rfl⟩
      | 5, _ => exact stepV rfl rfl (execExtT rfl (hv 3 (by decide) _ rfl _ rfl) rfl) ⟨s, ⟨_, rfl, rfl⟩, hS, fun _ _ => rfl⟩
      | 6, _ => exact stepV rfl rfl (execAsgB rfl (hv 4 (by decide) _ rfl _ rfl)) ⟨s, ⟨_, rfl, rfl⟩, hS, fun _ _ => rfl⟩
      | 7, _ => exact stepV rfl rfl (execAsgB rfl (hv 5 (by decide) _ rfl _ rfl)) ⟨s, ⟨_, rfl, rfl⟩, hS, fun _ _ => rfl⟩
      | k_ + 8, h_ => exact absurd h_ (by simp)
    rintro ⟨g53, c53⟩ a X8 h1 h2 h3 h4 hS
    clear BB
    clear FM2
    replace hS : Below X5.heap.size X5 X8 ∧ (FmI X5.heap.size 3 (updX (updX (updX (fun _ => undef) 0 (.slice (some ⟨g41, 0, none⟩) (J + 2) c41)) 1 (.slice (some ⟨g47, 0, none⟩) (m + 2) c47)) 2 (.slice (some ⟨g53, 0, none⟩) (n + 2) c53)) (nnA J m n k) (ffA (CT sf J) (CT df m) (CT cf n) (CT vf k)) X8) := hS
    obtain ⟨BB, FM3⟩ := hS
    replace t32 := (h3 32 (by decide)).trans t32
    replace t33 := (h3 33 (by decide)).trans t33
    replace t34 := (h3 34 (by decide)).trans t34
    replace t4 := (h3 4 (by decide)).trans t4
    replace t5 := (h3 5 (by decide)).trans t5
    replace t6 := (h3 6 (by decide)).trans t6
    replace t7 := (h3 7 (by decide)).trans t7
    replace t8 := (h3 8 (by decide)).trans t8
    have t9 : a.eval (.tmp 9) = .slice (some ⟨g53, 0, none⟩) n c53 := h4 6 _ rfl _ rfl
    have t10 : a.eval (.tmp 10) = .slice (some ⟨g53, 0, none⟩) (n + 2) c53 := h4 7 _ rfl _ rfl
    replace A := (⟨h1, h2.trans A.2⟩ : a.tmps.size = 271 ∧ a.defers = [])
    clear h1 h2 h3 h4
    refine wp_seq ?_
    refine wp_region_sq (σ := Nat × Nat) 271 [(0, 57), (1, 58), (2, 59), (3, 56), (4, 60), (5, 61), (6, 11), (7, 12)] (fun j_ s X => match j_ with | 0 => Below X5.heap.size X5 X ∧ (FmI X5.heap.size 3 (updX (updX (updX (fun _ => undef) 0 (.slice (some ⟨g41, 0, none⟩) (J + 2) c41)) 1 (.slice (some ⟨g47, 0, none⟩) (m + 2) c47)) 2 (.slice (some ⟨g53, 0, none⟩) (n + 2) c53)) (nnA J m n k) (ffA (CT sf J) (CT df m) (CT cf n) (CT vf k)) X) | 1 => Below X5.heap.size X5 X ∧ (FmI X5.heap.size 3 (updX (updX (updX (fun _ => undef) 0 (.slice (some ⟨g41, 0, none⟩) (J + 2) c41)) 1 (.slice (some ⟨g47, 0, none⟩) (m + 2) c47)) 2 (.slice (some ⟨g53, 0, none⟩) (n + 2) c53)) (nnA J m n k) (ffA (CT sf J) (CT df m) (CT cf n) (CT vf k)) X) | 2 => Below X5.heap.size X5 X ∧ (FmI X5.heap.size 3 (updX (updX (updX (fun _ => undef) 0 (.slice (some ⟨g41, 0, none⟩) (J + 2) c41)) 1 (.slice (some ⟨g47, 0, none⟩) (m + 2) c47)) 2 (.slice (some ⟨g53, 0, none⟩) (n + 2) c53)) (nnA J m n k) (ffA (CT sf J) (CT df m) (CT cf n) (CT vf k)) X) | 3 => Below X5.heap.size X5 X ∧ (FmI X5.heap.size 4 (updX (updX (updX (updX (fun _ => undef) 0 (.slice (some ⟨g41, 0, none⟩) (J + 2) c41)) 1 (.slice (some ⟨g47, 0, none⟩) (m + 2) c47)) 2 (.slice (some ⟨g53, 0, none⟩) (n + 2) c53)) 3 (.slice (some ⟨s.1, 0, none⟩) (k + 2) s.2)) (nnA J m n k) (ffA (CT sf J) (CT df m) (CT cf n) (CT vf k)) X) | 4 => Below X5.heap.size X5 X ∧ (FmI X5.heap.size 4 (updX (updX (updX (updX (fun _ => undef) 0 (.slice (some ⟨g41, 0, none⟩) (J + 2) c41)) 1 (.slice (some ⟨g47, 0, none⟩) (m + 2) c47)) 2 (.slice (some ⟨g53, 0, none⟩) (n + 2) c53)) 3 (.slice (some ⟨s.1, 0, none⟩) (k + 2) s.2)) (nnA J m n k) (ffA (CT sf J) (CT df m) (CT cf n) (CT vf k)) X) | 5 => Below X5.heap.size X5 X ∧ (FmI X5.heap.size 4 (updX (updX (updX (updX (fun _ => undef) 0 (.slice (some ⟨g41, 0, none⟩) (J + 2) c41)) 1 (.slice (some ⟨g47, 0, none⟩) (m + 2) c47)) 2 (.slice (some ⟨g53, 0, none⟩) (n + 2) c53)) 3 (.slice (some ⟨s.1, 0, none⟩) (k + 2) s.2)) (nnA J m n k) (ffA (CT sf J) (CT df m) (CT cf n) (CT vf k)) X) | 6 => Below X5.heap.size X5 X ∧ (FmI X5.heap.size 4 (updX (updX (updX (updX (fun _ => undef) 0 (.slice (some ⟨g41, 0, none⟩) (J + 2) c41)) 1 (.slice (some ⟨g47, 0, none⟩) (m + 2) c47)) 2 (.slice (some ⟨g53, 0, none⟩) (n + 2) c53)) 3 (.slice (some ⟨s.1, 0, none⟩) (k + 2) s.2)) (nnA J m n k) (ffA (CT sf J) (CT df m) (CT cf n) (CT vf k)) X) | 7 => Below X5.heap.size X5 X ∧ (FmI X5.heap.size 4 (updX (updX (updX (updX (fun _ => undef) 0 (.slice (some ⟨g41, 0, none⟩) (J + 2) c41)) 1 (.slice (some ⟨g47, 0, none⟩) (m + 2) c47)) 2 (.slice (some ⟨g53, 0, none⟩) (n + 2) c53)) 3 (.slice (some ⟨s.1, 0, none⟩) (k + 2) s.2)) (nnA J m n k) (ffA (CT sf J) (CT df m) (CT cf n) (CT vf k)) X) | _ => Below X5.heap.size X5 X ∧ (FmI X5.heap.size 4 (updX (updX (updX (updX (fun _ => undef) 0 (.slice (some ⟨g41, 0, none⟩) (J + 2) c41)) 1 (.slice (some ⟨g47, 0, none⟩) (m + 2) c47)) 2 (.slice (some ⟨g53, 0, none⟩) (n + 2) c53)) 3 (.slice (some ⟨s.1, 0, none⟩) (k + 2) s.2)) (nnA J m n k) (ffA (CT sf J) (CT df m) (CT cf n) (CT vf k)) X)) (fun s => fun i_ => match i_ with | 0 => .pointer (some ⟨gq, 3, none⟩) | 1 => v3 | 2 => .tuple #[.slice (some ⟨s.1, 0, none⟩) k s.2, .slice (some ⟨s.1, 0, none⟩) (k + 2) s.2] | 3 => .tuple #[.slice (some ⟨s.1, 0, none⟩) k s.2, .slice (some ⟨s.1, 0, none⟩) (k + 2) s.2] | 4 => .slice (some ⟨s.1, 0, none⟩) k s.2 | 5 => .slice (some ⟨s.1, 0, none⟩) (k + 2) s.2 | 6 => .slice (some ⟨s.1, 0, none⟩) k s.2 | 7 => .slice (some ⟨s.1, 0, none⟩) (k + 2) s.2 | _ => undef) (0, 0) A.1 (by kernel_rfl) (by decide) (by decide) ⟨BB, FM3⟩ ?_ ?_
    · intro i_ hi_ s a X hf hv hn hS
      match i_, hi_ with
      | 0, _ => exact stepV rfl rfl (execFldAk3 rfl ((hf 4 (by decide)).trans t4)) ⟨s, ⟨_, rfl, rfl⟩, hS, fun _ _ => rfl⟩
      | 1, _ => exact stepV rfl rfl (execLdLI (v := v3) rfl (hv 0 (by decide) _ rfl _ rfl) (ak_at3 (on9 FQ hS.1))) ⟨s, ⟨_, rfl, rfl⟩, hS, fun _ _ => rfl⟩
      | 2, _ =>
        refine stepC rfl rfl (execCall1 Try.func16 (by kernel_rfl) (by kernel_rfl) rfl (hv 1 (by decide) _ rfl _ rfl)) (lent_any vf k _ X (FI3.on hS.1) hz3 (by omega)) fun e w' hh => ?_
        obtain ⟨r0_, r1_, he, hk, hb⟩ := hh
        refine ⟨_, he, (r0_, r1_), ⟨_, rfl, rfl⟩, ⟨(hS.1).trans ((hb).mono (hS.1).size), FmI.add (hS.2.on hb) (fun t ht b e => ((hS.2.rows t ht).lt b e).2) hk (hS.1).size rfl (fun j hj => rfl)⟩, fun i hi => ?_⟩
        match i, hi with
        | 0, _ => rfl
        | 1, _ => rfl
        | n_ + 2, h_ => omega
      | 3, _ => exact stepV rfl rfl (execMvB rfl (hv 2 (by decide) _ rfl _ rfl)) ⟨s, ⟨_, rfl, rfl⟩, hS, fun _ _ => rfl⟩
      | 4, _ => exact stepV rfl rfl (execExtT rfl (hv 3 (by decide) _ rfl _ rfl) rfl) ⟨s, ⟨_, rfl, rfl⟩, hS, fun _ _ => rfl⟩
      | 5, _ => exact stepV rfl rfl (execExtT rfl (hv 3 (by decide) _ rfl _ rfl) rfl) ⟨s, ⟨_, rfl, rfl⟩, hS, fun _ _ => rfl⟩
      | 6, _ => exact stepV rfl rfl (execAsgB rfl (hv 4 (by decide) _ rfl _ rfl)) ⟨s, ⟨_, rfl, rfl⟩, hS, fun _ _ => rfl⟩
      | 7, _ => exact stepV rfl rfl (execAsgB rfl (hv 5 (by decide) _ rfl _ rfl)) ⟨s, ⟨_, rfl, rfl⟩, hS, fun _ _ => rfl⟩
      | k_ + 8, h_ => exact absurd h_ (by simp)
    rintro ⟨g59, c59⟩ a X9 h1 h2 h3 h4 hS
    clear BB
    clear FM3
    replace hS : Below X5.heap.size X5 X9 ∧ (FmI X5.heap.size 4 (updX (updX (updX (updX (fun _ => undef) 0 (.slice (some ⟨g41, 0, none⟩) (J + 2) c41)) 1 (.slice (some ⟨g47, 0, none⟩) (m + 2) c47)) 2 (.slice (some ⟨g53, 0, none⟩) (n + 2) c53)) 3 (.slice (some ⟨g59, 0, none⟩) (k + 2) c59)) (nnA J m n k) (ffA (CT sf J) (CT df m) (CT cf n) (CT vf k)) X9) := hS
    obtain ⟨BB, FM4⟩ := hS
    replace t32 := (h3 32 (by decide)).trans t32
    replace t33 := (h3 33 (by decide)).trans t33
    replace t34 := (h3 34 (by decide)).trans t34
    replace t4 := (h3 4 (by decide)).trans t4
    replace t5 := (h3 5 (by decide)).trans t5
    replace t6 := (h3 6 (by decide)).trans t6
    replace t7 := (h3 7 (by decide)).trans t7
    replace t8 := (h3 8 (by decide)).trans t8
    replace t9 := (h3 9 (by decide)).trans t9
    replace t10 := (h3 10 (by decide)).trans t10
    have t11 : a.eval (.tmp 11) = .slice (some ⟨g59, 0, none⟩) k c59 := h4 6 _ rfl _ rfl
    have t12 : a.eval (.tmp 12) = .slice (some ⟨g59, 0, none⟩) (k + 2) c59 := h4 7 _ rfl _ rfl
    replace A := (⟨h1, h2.trans A.2⟩ : a.tmps.size = 271 ∧ a.defers = [])
    clear h1 h2 h3 h4
    refine wp_seq ?_
    refine wp_region_sq (σ := Value × Value) 271 [(0, 63), (1, 64), (2, 65), (3, 66), (4, 67), (5, 62), (6, 68), (7, 69), (8, 70), (9, 13), (10, 14), (11, 15)] (fun j_ s X => match j_ with | 0 => Below X5.heap.size X5 X ∧ (FmI X5.heap.size 4 (updX (updX (updX (updX (fun _ => undef) 0 (.slice (some ⟨g41, 0, none⟩) (J + 2) c41)) 1 (.slice (some ⟨g47, 0, none⟩) (m + 2) c47)) 2 (.slice (some ⟨g53, 0, none⟩) (n + 2) c53)) 3 (.slice (some ⟨g59, 0, none⟩) (k + 2) c59)) (nnA J m n k) (ffA (CT sf J) (CT df m) (CT cf n) (CT vf k)) X) | 1 => Below X5.heap.size X5 X ∧ (FmI X5.heap.size 4 (updX (updX (updX (updX (fun _ => undef) 0 (.slice (some ⟨g41, 0, none⟩) (J + 2) c41)) 1 (.slice (some ⟨g47, 0, none⟩) (m + 2) c47)) 2 (.slice (some ⟨g53, 0, none⟩) (n + 2) c53)) 3 (.slice (some ⟨g59, 0, none⟩) (k + 2) c59)) (nnA J m n k) (ffA (CT sf J) (CT df m) (CT cf n) (CT vf k)) X) | 2 => Below X5.heap.size X5 X ∧ (FmI X5.heap.size 4 (updX (updX (updX (updX (fun _ => undef) 0 (.slice (some ⟨g41, 0, none⟩) (J + 2) c41)) 1 (.slice (some ⟨g47, 0, none⟩) (m + 2) c47)) 2 (.slice (some ⟨g53, 0, none⟩) (n + 2) c53)) 3 (.slice (some ⟨g59, 0, none⟩) (k + 2) c59)) (nnA J m n k) (ffA (CT sf J) (CT df m) (CT cf n) (CT vf k)) X) | 3 => Below X5.heap.size X5 X ∧ (FmI X5.heap.size 4 (updX (updX (updX (updX (fun _ => undef) 0 (.slice (some ⟨g41, 0, none⟩) (J + 2) c41)) 1 (.slice (some ⟨g47, 0, none⟩) (m + 2) c47)) 2 (.slice (some ⟨g53, 0, none⟩) (n + 2) c53)) 3 (.slice (some ⟨g59, 0, none⟩) (k + 2) c59)) (nnA J m n k) (ffA (CT sf J) (CT df m) (CT cf n) (CT vf k)) X) | 4 => Below X5.heap.size X5 X ∧ (FmI X5.heap.size 4 (updX (updX (updX (updX (fun _ => undef) 0 (.slice (some ⟨g41, 0, none⟩) (J + 2) c41)) 1 (.slice (some ⟨g47, 0, none⟩) (m + 2) c47)) 2 (.slice (some ⟨g53, 0, none⟩) (n + 2) c53)) 3 (.slice (some ⟨g59, 0, none⟩) (k + 2) c59)) (nnA J m n k) (ffA (CT sf J) (CT df m) (CT cf n) (CT vf k)) X) | 5 => Below X5.heap.size X5 X ∧ (FmI X5.heap.size 4 (updX (updX (updX (updX (fun _ => undef) 0 (.slice (some ⟨g41, 0, none⟩) (J + 2) c41)) 1 (.slice (some ⟨g47, 0, none⟩) (m + 2) c47)) 2 (.slice (some ⟨g53, 0, none⟩) (n + 2) c53)) 3 (.slice (some ⟨g59, 0, none⟩) (k + 2) c59)) (nnA J m n k) (ffA (CT sf J) (CT df m) (CT cf n) (CT vf k)) X) ∧ (SliceI X s.1 (zl (paE sf J df m) m) (pcF sf J df)) ∧ (SliceI X s.2 (zl (paE sf J df m) m) (poF sf J df m)) | 6 => Below X5.heap.size X5 X ∧ (FmI X5.heap.size 4 (updX (updX (updX (updX (fun _ => undef) 0 (.slice (some ⟨g41, 0, none⟩) (J + 2) c41)) 1 (.slice (some ⟨g47, 0, none⟩) (m + 2) c47)) 2 (.slice (some ⟨g53, 0, none⟩) (n + 2) c53)) 3 (.slice (some ⟨g59, 0, none⟩) (k + 2) c59)) (nnA J m n k) (ffA (CT sf J) (CT df m) (CT cf n) (CT vf k)) X) ∧ (SliceI X s.1 (zl (paE sf J df m) m) (pcF sf J df)) ∧ (SliceI X s.2 (zl (paE sf J df m) m) (poF sf J df m)) | 7 => Below X5.heap.size X5 X ∧ (FmI X5.heap.size 4 (updX (updX (updX (updX (fun _ => undef) 0 (.slice (some ⟨g41, 0, none⟩) (J + 2) c41)) 1 (.slice (some ⟨g47, 0, none⟩) (m + 2) c47)) 2 (.slice (some ⟨g53, 0, none⟩) (n + 2) c53)) 3 (.slice (some ⟨g59, 0, none⟩) (k + 2) c59)) (nnA J m n k) (ffA (CT sf J) (CT df m) (CT cf n) (CT vf k)) X) ∧ (SliceI X s.1 (zl (paE sf J df m) m) (pcF sf J df)) ∧ (SliceI X s.2 (zl (paE sf J df m) m) (poF sf J df m)) | 8 => Below X5.heap.size X5 X ∧ (FmI X5.heap.size 4 (updX (updX (updX (updX (fun _ => undef) 0 (.slice (some ⟨g41, 0, none⟩) (J + 2) c41)) 1 (.slice (some ⟨g47, 0, none⟩) (m + 2) c47)) 2 (.slice (some ⟨g53, 0, none⟩) (n + 2) c53)) 3 (.slice (some ⟨g59, 0, none⟩) (k + 2) c59)) (nnA J m n k) (ffA (CT sf J) (CT df m) (CT cf n) (CT vf k)) X) ∧ (SliceI X s.1 (zl (paE sf J df m) m) (pcF sf J df)) ∧ (SliceI X s.2 (zl (paE sf J df m) m) (poF sf J df m)) | 9 => Below X5.heap.size X5 X ∧ (FmI X5.heap.size 4 (updX (updX (updX (updX (fun _ => undef) 0 (.slice (some ⟨g41, 0, none⟩) (J + 2) c41)) 1 (.slice (some ⟨g47, 0, none⟩) (m + 2) c47)) 2 (.slice (some ⟨g53, 0, none⟩) (n + 2) c53)) 3 (.slice (some ⟨g59, 0, none⟩) (k + 2) c59)) (nnA J m n k) (ffA (CT sf J) (CT df m) (CT cf n) (CT vf k)) X) ∧ (SliceI X s.1 (zl (paE sf J df m) m) (pcF sf J df)) ∧ (SliceI X s.2 (zl (paE sf J df m) m) (poF sf J df m)) | 10 => Below X5.heap.size X5 X ∧ (FmI X5.heap.size 4 (updX (updX (updX (updX (fun _ => undef) 0 (.slice (some ⟨g41, 0, none⟩) (J + 2) c41)) 1 (.slice (some ⟨g47, 0, none⟩) (m + 2) c47)) 2 (.slice (some ⟨g53, 0, none⟩) (n + 2) c53)) 3 (.slice (some ⟨g59, 0, none⟩) (k + 2) c59)) (nnA J m n k) (ffA (CT sf J) (CT df m) (CT cf n) (CT vf k)) X) ∧ (SliceI X s.1 (zl (paE sf J df m) m) (pcF sf J df)) ∧ (SliceI X s.2 (zl (paE sf J df m) m) (poF sf J df m)) | 11 => Below X5.heap.size X5 X ∧ (FmI X5.heap.size 4 (updX (updX (updX (updX (fun _ => undef) 0 (.slice (some ⟨g41, 0, none⟩) (J + 2) c41)) 1 (.slice (some ⟨g47, 0, none⟩) (m + 2) c47)) 2 (.slice (some ⟨g53, 0, none⟩) (n + 2) c53)) 3 (.slice (some ⟨g59, 0, none⟩) (k + 2) c59)) (nnA J m n k) (ffA (CT sf J) (CT df m) (CT cf n) (CT vf k)) X) ∧ (SliceI X s.1 (zl (paE sf J df m) m) (pcF sf J df)) ∧ (SliceI X s.2 (zl (paE sf J df m) m) (poF sf J df m)) | _ => Below X5.heap.size X5 X ∧ (FmI X5.heap.size 4 (updX (updX (updX (updX (fun _ => undef) 0 (.slice (some ⟨g41, 0, none⟩) (J + 2) c41)) 1 (.slice (some ⟨g47, 0, none⟩) (m + 2) c47)) 2 (.slice (some ⟨g53, 0, none⟩) (n + 2) c53)) 3 (.slice (some ⟨g59, 0, none⟩) (k + 2) c59)) (nnA J m n k) (ffA (CT sf J) (CT df m) (CT cf n) (CT vf k)) X) ∧ (SliceI X s.1 (zl (paE sf J df m) m) (pcF sf J df)) ∧ (SliceI X s.2 (zl (paE sf J df m) m) (poF sf J df m))) (fun s => fun i_ => match i_ with | 0 => .pointer (some ⟨gq, 0, none⟩) | 1 => v0 | 2 => .pointer (some ⟨gq, 1, none⟩) | 3 => v1 | 4 => .tuple #[s.1, s.2, .int .i64 ((paE sf J df m : Nat) : Int)] | 5 => .tuple #[s.1, s.2, .int .i64 ((paE sf J df m : Nat) : Int)] | 6 => s.1 | 7 => s.2 | 8 => .int .i64 ((paE sf J df m : Nat) : Int) | 9 => s.1 | 10 => s.2 | 11 => .int .i64 ((paE sf J df m : Nat) : Int) | _ => undef) (undef, undef) A.1 (by kernel_rfl) (by decide) (by decide) ⟨BB, FM4⟩ ?_ ?_
    · intro i_ hi_ s a X hf hv hn hS
      match i_, hi_ with
      | 0, _ => exact stepV rfl rfl (execFldAk0 rfl ((hf 4 (by decide)).trans t4)) ⟨s, ⟨_, rfl, rfl⟩, hS, fun _ _ => rfl⟩
      | 1, _ => exact stepV rfl rfl (execLdLI (v := v0) rfl (hv 0 (by decide) _ rfl _ rfl) (ak_at0 (on9 FQ hS.1))) ⟨s, ⟨_, rfl, rfl⟩, hS, fun _ _ => rfl⟩
      | 2, _ => exact stepV rfl rfl (execFldAk1 rfl ((hf 4 (by decide)).trans t4)) ⟨s, ⟨_, rfl, rfl⟩, hS, fun _ _ => rfl⟩
      | 3, _ => exact stepV rfl rfl (execLdLI (v := v1) rfl (hv 2 (by decide) _ rfl _ rfl) (ak_at1 (on9 FQ hS.1))) ⟨s, ⟨_, rfl, rfl⟩, hS, fun _ _ => rfl⟩
      | 4, _ =>
        refine stepC rfl rfl (execCall2 Try.func17 (by kernel_rfl) (by kernel_rfl) rfl (hv 1 (by decide) _ rfl _ rfl) (hv 3 (by decide) _ rfl _ rfl)) (rpattern sf df J m _ _ X (FI0.on hS.1) (by omega) (FI1.on hS.1) (by omega)) fun e w' hh => ?_
        obtain ⟨r0_, r1_, he, hk, hb⟩ := hh
        refine ⟨_, he, (r0_, r1_), ⟨_, rfl, rfl⟩, ⟨(hS.1).trans ((hb).mono (hS.1).size), (hS.2.on hb), own_ints (hk.rows 0 (by omega)) (pc_fits (by omega)), own_ints (hk.rows 1 (by omega)) (po_fits ((FI1.on hS.1)).fits)⟩, fun i hi => ?_⟩
        match i, hi with
        | 0, _ => rfl
        | 1, _ => rfl
        | 2, _ => rfl
        | 3, _ => rfl
        | n_ + 4, h_ => omega
      | 5, _ => exact stepV rfl rfl (execMvB rfl (hv 4 (by decide) _ rfl _ rfl)) ⟨s, ⟨_, rfl, rfl⟩, hS, fun _ _ => rfl⟩
      | 6, _ => exact stepV rfl rfl (execExtT rfl (hv 5 (by decide) _ rfl _ rfl) rfl) ⟨s, ⟨_, rfl, rfl⟩, hS, fun _ _ => rfl⟩
      | 7, _ => exact stepV rfl rfl (execExtT rfl (hv 5 (by decide) _ rfl _ rfl) rfl) ⟨s, ⟨_, rfl, rfl⟩, hS, fun _ _ => rfl⟩
      | 8, _ => exact stepV rfl rfl (execExtT rfl (hv 5 (by decide) _ rfl _ rfl) rfl) ⟨s, ⟨_, rfl, rfl⟩, hS, fun _ _ => rfl⟩
      | 9, _ => exact stepV rfl rfl (execAsgB rfl (hv 6 (by decide) _ rfl _ rfl)) ⟨s, ⟨_, rfl, rfl⟩, hS, fun _ _ => rfl⟩
      | 10, _ => exact stepV rfl rfl (execAsgB rfl (hv 7 (by decide) _ rfl _ rfl)) ⟨s, ⟨_, rfl, rfl⟩, hS, fun _ _ => rfl⟩
      | 11, _ => exact stepV rfl rfl (execAsgB rfl (hv 8 (by decide) _ rfl _ rfl)) ⟨s, ⟨_, rfl, rfl⟩, hS, fun _ _ => rfl⟩
      | k_ + 12, h_ => exact absurd h_ (by simp)
    rintro ⟨a67, o67⟩ a X10 h1 h2 h3 h4 hS
    clear BB
    clear FM4
    replace hS : Below X5.heap.size X5 X10 ∧ (FmI X5.heap.size 4 (updX (updX (updX (updX (fun _ => undef) 0 (.slice (some ⟨g41, 0, none⟩) (J + 2) c41)) 1 (.slice (some ⟨g47, 0, none⟩) (m + 2) c47)) 2 (.slice (some ⟨g53, 0, none⟩) (n + 2) c53)) 3 (.slice (some ⟨g59, 0, none⟩) (k + 2) c59)) (nnA J m n k) (ffA (CT sf J) (CT df m) (CT cf n) (CT vf k)) X10) ∧ (SliceI X10 a67 (zl (paE sf J df m) m) (pcF sf J df)) ∧ (SliceI X10 o67 (zl (paE sf J df m) m) (poF sf J df m)) := hS
    obtain ⟨BB, FM4, Fa67, Fo67⟩ := hS
    replace t32 := (h3 32 (by decide)).trans t32
    replace t33 := (h3 33 (by decide)).trans t33
    replace t34 := (h3 34 (by decide)).trans t34
    replace t4 := (h3 4 (by decide)).trans t4
    replace t5 := (h3 5 (by decide)).trans t5
    replace t6 := (h3 6 (by decide)).trans t6
    replace t7 := (h3 7 (by decide)).trans t7
    replace t8 := (h3 8 (by decide)).trans t8
    replace t9 := (h3 9 (by decide)).trans t9
    replace t10 := (h3 10 (by decide)).trans t10
    replace t11 := (h3 11 (by decide)).trans t11
    replace t12 := (h3 12 (by decide)).trans t12
    have t13 : a.eval (.tmp 13) = a67 := h4 9 _ rfl _ rfl
    have t14 : a.eval (.tmp 14) = o67 := h4 10 _ rfl _ rfl
    have t15 : a.eval (.tmp 15) = .int .i64 ((paE sf J df m : Nat) : Int) := h4 11 _ rfl _ rfl
    replace A := (⟨h1, h2.trans A.2⟩ : a.tmps.size = 271 ∧ a.defers = [])
    clear h1 h2 h3 h4
    refine wp_seq ?_
    refine wp_region_sq (σ := Value) 271 [(0, 72), (1, 73), (2, 74), (3, 75), (4, 76), (5, 77), (6, 78), (7, 71), (8, 79), (9, 80), (10, 16), (11, 17)] (fun j_ s X => match j_ with | 0 => Below X5.heap.size X5 X ∧ (FmI X5.heap.size 4 (updX (updX (updX (updX (fun _ => undef) 0 (.slice (some ⟨g41, 0, none⟩) (J + 2) c41)) 1 (.slice (some ⟨g47, 0, none⟩) (m + 2) c47)) 2 (.slice (some ⟨g53, 0, none⟩) (n + 2) c53)) 3 (.slice (some ⟨g59, 0, none⟩) (k + 2) c59)) (nnA J m n k) (ffA (CT sf J) (CT df m) (CT cf n) (CT vf k)) X) ∧ (SliceI X a67 (zl (paE sf J df m) m) (pcF sf J df)) ∧ (SliceI X o67 (zl (paE sf J df m) m) (poF sf J df m)) | 1 => Below X5.heap.size X5 X ∧ (FmI X5.heap.size 4 (updX (updX (updX (updX (fun _ => undef) 0 (.slice (some ⟨g41, 0, none⟩) (J + 2) c41)) 1 (.slice (some ⟨g47, 0, none⟩) (m + 2) c47)) 2 (.slice (some ⟨g53, 0, none⟩) (n + 2) c53)) 3 (.slice (some ⟨g59, 0, none⟩) (k + 2) c59)) (nnA J m n k) (ffA (CT sf J) (CT df m) (CT cf n) (CT vf k)) X) ∧ (SliceI X a67 (zl (paE sf J df m) m) (pcF sf J df)) ∧ (SliceI X o67 (zl (paE sf J df m) m) (poF sf J df m)) | 2 => Below X5.heap.size X5 X ∧ (FmI X5.heap.size 4 (updX (updX (updX (updX (fun _ => undef) 0 (.slice (some ⟨g41, 0, none⟩) (J + 2) c41)) 1 (.slice (some ⟨g47, 0, none⟩) (m + 2) c47)) 2 (.slice (some ⟨g53, 0, none⟩) (n + 2) c53)) 3 (.slice (some ⟨g59, 0, none⟩) (k + 2) c59)) (nnA J m n k) (ffA (CT sf J) (CT df m) (CT cf n) (CT vf k)) X) ∧ (SliceI X a67 (zl (paE sf J df m) m) (pcF sf J df)) ∧ (SliceI X o67 (zl (paE sf J df m) m) (poF sf J df m)) | 3 => Below X5.heap.size X5 X ∧ (FmI X5.heap.size 4 (updX (updX (updX (updX (fun _ => undef) 0 (.slice (some ⟨g41, 0, none⟩) (J + 2) c41)) 1 (.slice (some ⟨g47, 0, none⟩) (m + 2) c47)) 2 (.slice (some ⟨g53, 0, none⟩) (n + 2) c53)) 3 (.slice (some ⟨g59, 0, none⟩) (k + 2) c59)) (nnA J m n k) (ffA (CT sf J) (CT df m) (CT cf n) (CT vf k)) X) ∧ (SliceI X a67 (zl (paE sf J df m) m) (pcF sf J df)) ∧ (SliceI X o67 (zl (paE sf J df m) m) (poF sf J df m)) | 4 => Below X5.heap.size X5 X ∧ (FmI X5.heap.size 4 (updX (updX (updX (updX (fun _ => undef) 0 (.slice (some ⟨g41, 0, none⟩) (J + 2) c41)) 1 (.slice (some ⟨g47, 0, none⟩) (m + 2) c47)) 2 (.slice (some ⟨g53, 0, none⟩) (n + 2) c53)) 3 (.slice (some ⟨g59, 0, none⟩) (k + 2) c59)) (nnA J m n k) (ffA (CT sf J) (CT df m) (CT cf n) (CT vf k)) X) ∧ (SliceI X a67 (zl (paE sf J df m) m) (pcF sf J df)) ∧ (SliceI X o67 (zl (paE sf J df m) m) (poF sf J df m)) | 5 => Below X5.heap.size X5 X ∧ (FmI X5.heap.size 4 (updX (updX (updX (updX (fun _ => undef) 0 (.slice (some ⟨g41, 0, none⟩) (J + 2) c41)) 1 (.slice (some ⟨g47, 0, none⟩) (m + 2) c47)) 2 (.slice (some ⟨g53, 0, none⟩) (n + 2) c53)) 3 (.slice (some ⟨g59, 0, none⟩) (k + 2) c59)) (nnA J m n k) (ffA (CT sf J) (CT df m) (CT cf n) (CT vf k)) X) ∧ (SliceI X a67 (zl (paE sf J df m) m) (pcF sf J df)) ∧ (SliceI X o67 (zl (paE sf J df m) m) (poF sf J df m)) | 6 => Below X5.heap.size X5 X ∧ (FmI X5.heap.size 4 (updX (updX (updX (updX (fun _ => undef) 0 (.slice (some ⟨g41, 0, none⟩) (J + 2) c41)) 1 (.slice (some ⟨g47, 0, none⟩) (m + 2) c47)) 2 (.slice (some ⟨g53, 0, none⟩) (n + 2) c53)) 3 (.slice (some ⟨g59, 0, none⟩) (k + 2) c59)) (nnA J m n k) (ffA (CT sf J) (CT df m) (CT cf n) (CT vf k)) X) ∧ (SliceI X a67 (zl (paE sf J df m) m) (pcF sf J df)) ∧ (SliceI X o67 (zl (paE sf J df m) m) (poF sf J df m)) | 7 => Below X5.heap.size X5 X ∧ (FmI X5.heap.size 4 (updX (updX (updX (updX (fun _ => undef) 0 (.slice (some ⟨g41, 0, none⟩) (J + 2) c41)) 1 (.slice (some ⟨g47, 0, none⟩) (m + 2) c47)) 2 (.slice (some ⟨g53, 0, none⟩) (n + 2) c53)) 3 (.slice (some ⟨g59, 0, none⟩) (k + 2) c59)) (nnA J m n k) (ffA (CT sf J) (CT df m) (CT cf n) (CT vf k)) X) ∧ (SliceI X a67 (zl (paE sf J df m) m) (pcF sf J df)) ∧ (SliceI X o67 (zl (paE sf J df m) m) (poF sf J df m)) ∧ (SliceI X s (zl (drE sf J cf n vf k) n) (dwF sf cf vf)) | 8 => Below X5.heap.size X5 X ∧ (FmI X5.heap.size 4 (updX (updX (updX (updX (fun _ => undef) 0 (.slice (some ⟨g41, 0, none⟩) (J + 2) c41)) 1 (.slice (some ⟨g47, 0, none⟩) (m + 2) c47)) 2 (.slice (some ⟨g53, 0, none⟩) (n + 2) c53)) 3 (.slice (some ⟨g59, 0, none⟩) (k + 2) c59)) (nnA J m n k) (ffA (CT sf J) (CT df m) (CT cf n) (CT vf k)) X) ∧ (SliceI X a67 (zl (paE sf J df m) m) (pcF sf J df)) ∧ (SliceI X o67 (zl (paE sf J df m) m) (poF sf J df m)) ∧ (SliceI X s (zl (drE sf J cf n vf k) n) (dwF sf cf vf)) | 9 => Below X5.heap.size X5 X ∧ (FmI X5.heap.size 4 (updX (updX (updX (updX (fun _ => undef) 0 (.slice (some ⟨g41, 0, none⟩) (J + 2) c41)) 1 (.slice (some ⟨g47, 0, none⟩) (m + 2) c47)) 2 (.slice (some ⟨g53, 0, none⟩) (n + 2) c53)) 3 (.slice (some ⟨g59, 0, none⟩) (k + 2) c59)) (nnA J m n k) (ffA (CT sf J) (CT df m) (CT cf n) (CT vf k)) X) ∧ (SliceI X a67 (zl (paE sf J df m) m) (pcF sf J df)) ∧ (SliceI X o67 (zl (paE sf J df m) m) (poF sf J df m)) ∧ (SliceI X s (zl (drE sf J cf n vf k) n) (dwF sf cf vf)) | 10 => Below X5.heap.size X5 X ∧ (FmI X5.heap.size 4 (updX (updX (updX (updX (fun _ => undef) 0 (.slice (some ⟨g41, 0, none⟩) (J + 2) c41)) 1 (.slice (some ⟨g47, 0, none⟩) (m + 2) c47)) 2 (.slice (some ⟨g53, 0, none⟩) (n + 2) c53)) 3 (.slice (some ⟨g59, 0, none⟩) (k + 2) c59)) (nnA J m n k) (ffA (CT sf J) (CT df m) (CT cf n) (CT vf k)) X) ∧ (SliceI X a67 (zl (paE sf J df m) m) (pcF sf J df)) ∧ (SliceI X o67 (zl (paE sf J df m) m) (poF sf J df m)) ∧ (SliceI X s (zl (drE sf J cf n vf k) n) (dwF sf cf vf)) | 11 => Below X5.heap.size X5 X ∧ (FmI X5.heap.size 4 (updX (updX (updX (updX (fun _ => undef) 0 (.slice (some ⟨g41, 0, none⟩) (J + 2) c41)) 1 (.slice (some ⟨g47, 0, none⟩) (m + 2) c47)) 2 (.slice (some ⟨g53, 0, none⟩) (n + 2) c53)) 3 (.slice (some ⟨g59, 0, none⟩) (k + 2) c59)) (nnA J m n k) (ffA (CT sf J) (CT df m) (CT cf n) (CT vf k)) X) ∧ (SliceI X a67 (zl (paE sf J df m) m) (pcF sf J df)) ∧ (SliceI X o67 (zl (paE sf J df m) m) (poF sf J df m)) ∧ (SliceI X s (zl (drE sf J cf n vf k) n) (dwF sf cf vf)) | _ => Below X5.heap.size X5 X ∧ (FmI X5.heap.size 4 (updX (updX (updX (updX (fun _ => undef) 0 (.slice (some ⟨g41, 0, none⟩) (J + 2) c41)) 1 (.slice (some ⟨g47, 0, none⟩) (m + 2) c47)) 2 (.slice (some ⟨g53, 0, none⟩) (n + 2) c53)) 3 (.slice (some ⟨g59, 0, none⟩) (k + 2) c59)) (nnA J m n k) (ffA (CT sf J) (CT df m) (CT cf n) (CT vf k)) X) ∧ (SliceI X a67 (zl (paE sf J df m) m) (pcF sf J df)) ∧ (SliceI X o67 (zl (paE sf J df m) m) (poF sf J df m)) ∧ (SliceI X s (zl (drE sf J cf n vf k) n) (dwF sf cf vf))) (fun s => fun i_ => match i_ with | 0 => .pointer (some ⟨gq, 0, none⟩) | 1 => v0 | 2 => .pointer (some ⟨gq, 2, none⟩) | 3 => v2 | 4 => .pointer (some ⟨gq, 3, none⟩) | 5 => v3 | 6 => .tuple #[s, .int .i64 ((drE sf J cf n vf k : Nat) : Int)] | 7 => .tuple #[s, .int .i64 ((drE sf J cf n vf k : Nat) : Int)] | 8 => s | 9 => .int .i64 ((drE sf J cf n vf k : Nat) : Int) | 10 => s | 11 => .int .i64 ((drE sf J cf n vf k : Nat) : Int) | _ => undef) undef A.1 (by kernel_rfl) (by decide) (by decide) ⟨BB, FM4, Fa67, Fo67⟩ ?_ ?_
    · intro i_ hi_ s a X hf hv hn hS
      match i_, hi_ with
      | 0, _ => exact stepV rfl rfl (execFldAk0 rfl ((hf 4 (by decide)).trans t4)) ⟨s, ⟨_, rfl, rfl⟩, hS, fun _ _ => rfl⟩
      | 1, _ => exact stepV rfl rfl (execLdLI (v := v0) rfl (hv 0 (by decide) _ rfl _ rfl) (ak_at0 (on9 FQ hS.1))) ⟨s, ⟨_, rfl, rfl⟩, hS, fun _ _ => rfl⟩
      | 2, _ => exact stepV rfl rfl (execFldAk2 rfl ((hf 4 (by decide)).trans t4)) ⟨s, ⟨_, rfl, rfl⟩, hS, fun _ _ => rfl⟩
      | 3, _ => exact stepV rfl rfl (execLdLI (v := v2) rfl (hv 2 (by decide) _ rfl _ rfl) (ak_at2 (on9 FQ hS.1))) ⟨s, ⟨_, rfl, rfl⟩, hS, fun _ _ => rfl⟩
      | 4, _ => exact stepV rfl rfl (execFldAk3 rfl ((hf 4 (by decide)).trans t4)) ⟨s, ⟨_, rfl, rfl⟩, hS, fun _ _ => rfl⟩
      | 5, _ => exact stepV rfl rfl (execLdLI (v := v3) rfl (hv 4 (by decide) _ rfl _ rfl) (ak_at3 (on9 FQ hS.1))) ⟨s, ⟨_, rfl, rfl⟩, hS, fun _ _ => rfl⟩
      | 6, _ =>
        refine stepC rfl rfl (execCall3 Try.func18 (by kernel_rfl) (by kernel_rfl) rfl (hv 1 (by decide) _ rfl _ rfl) (hv 3 (by decide) _ rfl _ rfl) (hv 5 (by decide) _ rfl _ rfl)) (rdraws12 sf cf vf J n k _ _ _ X (FI0.on hS.1) (by omega) (FI2.on hS.1) (by omega) (FI3.on hS.1)) fun e w' hh => ?_
        obtain ⟨r0_, he, hk, hb⟩ := hh
        refine ⟨_, he, r0_, ⟨_, rfl, rfl⟩, ⟨(hS.1).trans ((hb).mono (hS.1).size), (hS.2.1.on hb), (hS.2.2.1.on hb), (hS.2.2.2.on hb), own_ints hk (dw_fits (by omega))⟩, fun i hi => ?_⟩
        match i, hi with
        | 0, _ => rfl
        | 1, _ => rfl
        | 2, _ => rfl
        | 3, _ => rfl
        | 4, _ => rfl
        | 5, _ => rfl
        | n_ + 6, h_ => omega
      | 7, _ => exact stepV rfl rfl (execMvB rfl (hv 6 (by decide) _ rfl _ rfl)) ⟨s, ⟨_, rfl, rfl⟩, hS, fun _ _ => rfl⟩
      | 8, _ => exact stepV rfl rfl (execExtT rfl (hv 7 (by decide) _ rfl _ rfl) rfl) ⟨s, ⟨_, rfl, rfl⟩, hS, fun _ _ => rfl⟩
      | 9, _ => exact stepV rfl rfl (execExtT rfl (hv 7 (by decide) _ rfl _ rfl) rfl) ⟨s, ⟨_, rfl, rfl⟩, hS, fun _ _ => rfl⟩
      | 10, _ => exact stepV rfl rfl (execAsgB rfl (hv 8 (by decide) _ rfl _ rfl)) ⟨s, ⟨_, rfl, rfl⟩, hS, fun _ _ => rfl⟩
      | 11, _ => exact stepV rfl rfl (execAsgB rfl (hv 9 (by decide) _ rfl _ rfl)) ⟨s, ⟨_, rfl, rfl⟩, hS, fun _ _ => rfl⟩
      | k_ + 12, h_ => exact absurd h_ (by simp)
    rintro d78 a X11 h1 h2 h3 h4 hS
    clear BB
    clear FM4
    clear Fa67
    clear Fo67
    replace hS : Below X5.heap.size X5 X11 ∧ (FmI X5.heap.size 4 (updX (updX (updX (updX (fun _ => undef) 0 (.slice (some ⟨g41, 0, none⟩) (J + 2) c41)) 1 (.slice (some ⟨g47, 0, none⟩) (m + 2) c47)) 2 (.slice (some ⟨g53, 0, none⟩) (n + 2) c53)) 3 (.slice (some ⟨g59, 0, none⟩) (k + 2) c59)) (nnA J m n k) (ffA (CT sf J) (CT df m) (CT cf n) (CT vf k)) X11) ∧ (SliceI X11 a67 (zl (paE sf J df m) m) (pcF sf J df)) ∧ (SliceI X11 o67 (zl (paE sf J df m) m) (poF sf J df m)) ∧ (SliceI X11 d78 (zl (drE sf J cf n vf k) n) (dwF sf cf vf)) := hS
    obtain ⟨BB, FM4, Fa67, Fo67, Fd78⟩ := hS
    replace t32 := (h3 32 (by decide)).trans t32
    replace t33 := (h3 33 (by decide)).trans t33
    replace t34 := (h3 34 (by decide)).trans t34
    replace t4 := (h3 4 (by decide)).trans t4
    replace t5 := (h3 5 (by decide)).trans t5
    replace t6 := (h3 6 (by decide)).trans t6
    replace t7 := (h3 7 (by decide)).trans t7
    replace t8 := (h3 8 (by decide)).trans t8
    replace t9 := (h3 9 (by decide)).trans t9
    replace t10 := (h3 10 (by decide)).trans t10
    replace t11 := (h3 11 (by decide)).trans t11
    replace t12 := (h3 12 (by decide)).trans t12
    replace t13 := (h3 13 (by decide)).trans t13
    replace t14 := (h3 14 (by decide)).trans t14
    replace t15 := (h3 15 (by decide)).trans t15
    have t16 : a.eval (.tmp 16) = d78 := h4 10 _ rfl _ rfl
    have t17 : a.eval (.tmp 17) = .int .i64 ((drE sf J cf n vf k : Nat) : Int) := h4 11 _ rfl _ rfl
    replace A := (⟨h1, h2.trans A.2⟩ : a.tmps.size = 271 ∧ a.defers = [])
    clear h1 h2 h3 h4
    replace FI0 := (FI0.on BB)
    replace FI1 := (FI1.on BB)
    replace FI2 := (FI2.on BB)
    replace FI3 := (FI3.on BB)
    replace FQ := (on9 FQ BB)
    replace BW := BW.trans (BB.mono BW.size)
    clear BB
    have BB : Below X11.heap.size X11 X11 := Below.refl _ _
    have FN0 : FmI X11.heap.size 0 (fun _ => undef) (nn6 (paE sf J df m) m (drE sf J cf n vf k) n) (ff6 (pcF sf J df) (poF sf J df m) (dwF sf cf vf)) X11 := ⟨fun t ht => absurd ht (Nat.not_lt_zero _), fun s t hs => absurd hs (Nat.not_lt_zero _)⟩
    refine wp_seq ?_
    refine wp_region_sq (σ := Value × Value) 271 [(0, 82), (1, 83), (2, 84), (3, 81), (4, 85), (5, 86), (6, 87), (7, 18), (8, 19), (9, 20)] (fun j_ s X => match j_ with | 0 => Below X11.heap.size X11 X ∧ (FmI X11.heap.size 0 (fun _ => undef) (nn6 (paE sf J df m) m (drE sf J cf n vf k) n) (ff6 (pcF sf J df) (poF sf J df m) (dwF sf cf vf)) X) | 1 => Below X11.heap.size X11 X ∧ (FmI X11.heap.size 0 (fun _ => undef) (nn6 (paE sf J df m) m (drE sf J cf n vf k) n) (ff6 (pcF sf J df) (poF sf J df m) (dwF sf cf vf)) X) | 2 => Below X11.heap.size X11 X ∧ (FmI X11.heap.size 0 (fun _ => undef) (nn6 (paE sf J df m) m (drE sf J cf n vf k) n) (ff6 (pcF sf J df) (poF sf J df m) (dwF sf cf vf)) X) | 3 => Below X11.heap.size X11 X ∧ (FmI X11.heap.size 2 (updX (updX (fun _ => undef) 0 s.1) 1 s.2) (nn6 (paE sf J df m) m (drE sf J cf n vf k) n) (ff6 (pcF sf J df) (poF sf J df m) (dwF sf cf vf)) X) | 4 => Below X11.heap.size X11 X ∧ (FmI X11.heap.size 2 (updX (updX (fun _ => undef) 0 s.1) 1 s.2) (nn6 (paE sf J df m) m (drE sf J cf n vf k) n) (ff6 (pcF sf J df) (poF sf J df m) (dwF sf cf vf)) X) | 5 => Below X11.heap.size X11 X ∧ (FmI X11.heap.size 2 (updX (updX (fun _ => undef) 0 s.1) 1 s.2) (nn6 (paE sf J df m) m (drE sf J cf n vf k) n) (ff6 (pcF sf J df) (poF sf J df m) (dwF sf cf vf)) X) | 6 => Below X11.heap.size X11 X ∧ (FmI X11.heap.size 2 (updX (updX (fun _ => undef) 0 s.1) 1 s.2) (nn6 (paE sf J df m) m (drE sf J cf n vf k) n) (ff6 (pcF sf J df) (poF sf J df m) (dwF sf cf vf)) X) | 7 => Below X11.heap.size X11 X ∧ (FmI X11.heap.size 2 (updX (updX (fun _ => undef) 0 s.1) 1 s.2) (nn6 (paE sf J df m) m (drE sf J cf n vf k) n) (ff6 (pcF sf J df) (poF sf J df m) (dwF sf cf vf)) X) | 8 => Below X11.heap.size X11 X ∧ (FmI X11.heap.size 2 (updX (updX (fun _ => undef) 0 s.1) 1 s.2) (nn6 (paE sf J df m) m (drE sf J cf n vf k) n) (ff6 (pcF sf J df) (poF sf J df m) (dwF sf cf vf)) X) | 9 => Below X11.heap.size X11 X ∧ (FmI X11.heap.size 2 (updX (updX (fun _ => undef) 0 s.1) 1 s.2) (nn6 (paE sf J df m) m (drE sf J cf n vf k) n) (ff6 (pcF sf J df) (poF sf J df m) (dwF sf cf vf)) X) | _ => Below X11.heap.size X11 X ∧ (FmI X11.heap.size 2 (updX (updX (fun _ => undef) 0 s.1) 1 s.2) (nn6 (paE sf J df m) m (drE sf J cf n vf k) n) (ff6 (pcF sf J df) (poF sf J df m) (dwF sf cf vf)) X)) (fun s => fun i_ => match i_ with | 0 => .slice (some ⟨g41, 0, none⟩) J c41 | 1 => .slice (some ⟨g47, 0, none⟩) m c47 | 2 => .tuple #[s.1, s.2, .int .i64 ((paE sf J df m : Nat) : Int)] | 3 => .tuple #[s.1, s.2, .int .i64 ((paE sf J df m : Nat) : Int)] | 4 => s.1 | 5 => s.2 | 6 => .int .i64 ((paE sf J df m : Nat) : Int) | 7 => s.1 | 8 => s.2 | 9 => .int .i64 ((paE sf J df m : Nat) : Int) | _ => undef) (undef, undef) A.1 (by kernel_rfl) (by decide) (by decide) ⟨BB, FN0⟩ ?_ ?_
    · intro i_ hi_ s a X hf hv hn hS
      match i_, hi_ with
      | 0, _ => exact stepV rfl rfl (execMvB rfl ((hf 5 (by decide)).trans t5)) ⟨s, ⟨_, rfl, rfl⟩, hS, fun _ _ => rfl⟩
      | 1, _ => exact stepV rfl rfl (execMvB rfl ((hf 7 (by decide)).trans t7)) ⟨s, ⟨_, rfl, rfl⟩, hS, fun _ _ => rfl⟩
      | 2, _ =>
        refine stepC rfl rfl (execCall2 Try.func19 (by kernel_rfl) (by kernel_rfl) rfl (hv 0 (by decide) _ rfl _ rfl) (hv 1 (by decide) _ rfl _ rfl)) (ppattern sf df J m _ _ X (lent_in ((FM4.on hS.1).rows 0 (by omega)) hf0) (by omega) (lent_in ((FM4.on hS.1).rows 1 (by omega)) hf1) (by omega)) fun e w' hh => ?_
        obtain ⟨r0_, r1_, he, hk, hb⟩ := hh
        refine ⟨_, he, (r0_, r1_), ⟨_, rfl, rfl⟩, ⟨(hS.1).trans ((hb).mono (hS.1).size), FmI.add2 (hS.2.on hb) (fun t ht b e => ((hS.2.rows t ht).lt b e).2) hk (hS.1).size rfl rfl (fun j hj => rfl) (fun j hj => rfl)⟩, fun i hi => ?_⟩
        match i, hi with
        | 0, _ => rfl
        | 1, _ => rfl
        | n_ + 2, h_ => omega
      | 3, _ => exact stepV rfl rfl (execMvB rfl (hv 2 (by decide) _ rfl _ rfl)) ⟨s, ⟨_, rfl, rfl⟩, hS, fun _ _ => rfl⟩
      | 4, _ => exact stepV rfl rfl (execExtT rfl (hv 3 (by decide) _ rfl _ rfl) rfl) ⟨s, ⟨_, rfl, rfl⟩, hS, fun _ _ => rfl⟩
      | 5, _ => exact stepV rfl rfl (execExtT rfl (hv 3 (by decide) _ rfl _ rfl) rfl) ⟨s, ⟨_, rfl, rfl⟩, hS, fun _ _ => rfl⟩
      | 6, _ => exact stepV rfl rfl (execExtT rfl (hv 3 (by decide) _ rfl _ rfl) rfl) ⟨s, ⟨_, rfl, rfl⟩, hS, fun _ _ => rfl⟩
      | 7, _ => exact stepV rfl rfl (execAsgB rfl (hv 4 (by decide) _ rfl _ rfl)) ⟨s, ⟨_, rfl, rfl⟩, hS, fun _ _ => rfl⟩
      | 8, _ => exact stepV rfl rfl (execAsgB rfl (hv 5 (by decide) _ rfl _ rfl)) ⟨s, ⟨_, rfl, rfl⟩, hS, fun _ _ => rfl⟩
      | 9, _ => exact stepV rfl rfl (execAsgB rfl (hv 6 (by decide) _ rfl _ rfl)) ⟨s, ⟨_, rfl, rfl⟩, hS, fun _ _ => rfl⟩
      | k_ + 10, h_ => exact absurd h_ (by simp)
    rintro ⟨a84, o84⟩ a X12 h1 h2 h3 h4 hS
    clear BB
    clear FN0
    replace hS : Below X11.heap.size X11 X12 ∧ (FmI X11.heap.size 2 (updX (updX (fun _ => undef) 0 a84) 1 o84) (nn6 (paE sf J df m) m (drE sf J cf n vf k) n) (ff6 (pcF sf J df) (poF sf J df m) (dwF sf cf vf)) X12) := hS
    obtain ⟨BB, FN2⟩ := hS
    replace t32 := (h3 32 (by decide)).trans t32
    replace t33 := (h3 33 (by decide)).trans t33
    replace t34 := (h3 34 (by decide)).trans t34
    replace t4 := (h3 4 (by decide)).trans t4
    replace t5 := (h3 5 (by decide)).trans t5
    replace t6 := (h3 6 (by decide)).trans t6
    replace t7 := (h3 7 (by decide)).trans t7
    replace t8 := (h3 8 (by decide)).trans t8
    replace t9 := (h3 9 (by decide)).trans t9
    replace t10 := (h3 10 (by decide)).trans t10
    replace t11 := (h3 11 (by decide)).trans t11
    replace t12 := (h3 12 (by decide)).trans t12
    replace t13 := (h3 13 (by decide)).trans t13
    replace t14 := (h3 14 (by decide)).trans t14
    replace t15 := (h3 15 (by decide)).trans t15
    replace t16 := (h3 16 (by decide)).trans t16
    replace t17 := (h3 17 (by decide)).trans t17
    have t18 : a.eval (.tmp 18) = a84 := h4 7 _ rfl _ rfl
    have t19 : a.eval (.tmp 19) = o84 := h4 8 _ rfl _ rfl
    have t20 : a.eval (.tmp 20) = .int .i64 ((paE sf J df m : Nat) : Int) := h4 9 _ rfl _ rfl
    replace A := (⟨h1, h2.trans A.2⟩ : a.tmps.size = 271 ∧ a.defers = [])
    clear h1 h2 h3 h4
    refine wp_seq ?_
    refine wp_region_sq (σ := Value × Value) 271 [(0, 89), (1, 90), (2, 91), (3, 88), (4, 92), (5, 93), (6, 94), (7, 21), (8, 22), (9, 23)] (fun j_ s X => match j_ with | 0 => Below X11.heap.size X11 X ∧ (FmI X11.heap.size 2 (updX (updX (fun _ => undef) 0 a84) 1 o84) (nn6 (paE sf J df m) m (drE sf J cf n vf k) n) (ff6 (pcF sf J df) (poF sf J df m) (dwF sf cf vf)) X) | 1 => Below X11.heap.size X11 X ∧ (FmI X11.heap.size 2 (updX (updX (fun _ => undef) 0 a84) 1 o84) (nn6 (paE sf J df m) m (drE sf J cf n vf k) n) (ff6 (pcF sf J df) (poF sf J df m) (dwF sf cf vf)) X) | 2 => Below X11.heap.size X11 X ∧ (FmI X11.heap.size 2 (updX (updX (fun _ => undef) 0 a84) 1 o84) (nn6 (paE sf J df m) m (drE sf J cf n vf k) n) (ff6 (pcF sf J df) (poF sf J df m) (dwF sf cf vf)) X) | 3 => Below X11.heap.size X11 X ∧ (FmI X11.heap.size 4 (updX (updX (updX (updX (fun _ => undef) 0 a84) 1 o84) 2 s.1) 3 s.2) (nn6 (paE sf J df m) m (drE sf J cf n vf k) n) (ff6 (pcF sf J df) (poF sf J df m) (dwF sf cf vf)) X) | 4 => Below X11.heap.size X11 X ∧ (FmI X11.heap.size 4 (updX (updX (updX (updX (fun _ => undef) 0 a84) 1 o84) 2 s.1) 3 s.2) (nn6 (paE sf J df m) m (drE sf J cf n vf k) n) (ff6 (pcF sf J df) (poF sf J df m) (dwF sf cf vf)) X) | 5 => Below X11.heap.size X11 X ∧ (FmI X11.heap.size 4 (updX (updX (updX (updX (fun _ => undef) 0 a84) 1 o84) 2 s.1) 3 s.2) (nn6 (paE sf J df m) m (drE sf J cf n vf k) n) (ff6 (pcF sf J df) (poF sf J df m) (dwF sf cf vf)) X) | 6 => Below X11.heap.size X11 X ∧ (FmI X11.heap.size 4 (updX (updX (updX (updX (fun _ => undef) 0 a84) 1 o84) 2 s.1) 3 s.2) (nn6 (paE sf J df m) m (drE sf J cf n vf k) n) (ff6 (pcF sf J df) (poF sf J df m) (dwF sf cf vf)) X) | 7 => Below X11.heap.size X11 X ∧ (FmI X11.heap.size 4 (updX (updX (updX (updX (fun _ => undef) 0 a84) 1 o84) 2 s.1) 3 s.2) (nn6 (paE sf J df m) m (drE sf J cf n vf k) n) (ff6 (pcF sf J df) (poF sf J df m) (dwF sf cf vf)) X) | 8 => Below X11.heap.size X11 X ∧ (FmI X11.heap.size 4 (updX (updX (updX (updX (fun _ => undef) 0 a84) 1 o84) 2 s.1) 3 s.2) (nn6 (paE sf J df m) m (drE sf J cf n vf k) n) (ff6 (pcF sf J df) (poF sf J df m) (dwF sf cf vf)) X) | 9 => Below X11.heap.size X11 X ∧ (FmI X11.heap.size 4 (updX (updX (updX (updX (fun _ => undef) 0 a84) 1 o84) 2 s.1) 3 s.2) (nn6 (paE sf J df m) m (drE sf J cf n vf k) n) (ff6 (pcF sf J df) (poF sf J df m) (dwF sf cf vf)) X) | _ => Below X11.heap.size X11 X ∧ (FmI X11.heap.size 4 (updX (updX (updX (updX (fun _ => undef) 0 a84) 1 o84) 2 s.1) 3 s.2) (nn6 (paE sf J df m) m (drE sf J cf n vf k) n) (ff6 (pcF sf J df) (poF sf J df m) (dwF sf cf vf)) X)) (fun s => fun i_ => match i_ with | 0 => .slice (some ⟨g41, 0, none⟩) J c41 | 1 => .slice (some ⟨g47, 0, none⟩) m c47 | 2 => .tuple #[s.1, s.2, .int .i64 ((paE sf J df m : Nat) : Int)] | 3 => .tuple #[s.1, s.2, .int .i64 ((paE sf J df m : Nat) : Int)] | 4 => s.1 | 5 => s.2 | 6 => .int .i64 ((paE sf J df m : Nat) : Int) | 7 => s.1 | 8 => s.2 | 9 => .int .i64 ((paE sf J df m : Nat) : Int) | _ => undef) (undef, undef) A.1 (by kernel_rfl) (by decide) (by decide) ⟨BB, FN2⟩ ?_ ?_
    · intro i_ hi_ s a X hf hv hn hS
      match i_, hi_ with
      | 0, _ => exact stepV rfl rfl (execMvB rfl ((hf 5 (by decide)).trans t5)) ⟨s, ⟨_, rfl, rfl⟩, hS, fun _ _ => rfl⟩
      | 1, _ => exact stepV rfl rfl (execMvB rfl ((hf 7 (by decide)).trans t7)) ⟨s, ⟨_, rfl, rfl⟩, hS, fun _ _ => rfl⟩
      | 2, _ =>
        refine stepC rfl rfl (execCall2 Try.func19 (by kernel_rfl) (by kernel_rfl) rfl (hv 0 (by decide) _ rfl _ rfl) (hv 1 (by decide) _ rfl _ rfl)) (ppattern sf df J m _ _ X (lent_in ((FM4.on hS.1).rows 0 (by omega)) hf0) (by omega) (lent_in ((FM4.on hS.1).rows 1 (by omega)) hf1) (by omega)) fun e w' hh => ?_
        obtain ⟨r0_, r1_, he, hk, hb⟩ := hh
        refine ⟨_, he, (r0_, r1_), ⟨_, rfl, rfl⟩, ⟨(hS.1).trans ((hb).mono (hS.1).size), FmI.add2 (hS.2.on hb) (fun t ht b e => ((hS.2.rows t ht).lt b e).2) hk (hS.1).size rfl rfl (fun j hj => rfl) (fun j hj => rfl)⟩, fun i hi => ?_⟩
        match i, hi with
        | 0, _ => rfl
        | 1, _ => rfl
        | n_ + 2, h_ => omega
      | 3, _ => exact stepV rfl rfl (execMvB rfl (hv 2 (by decide) _ rfl _ rfl)) ⟨s, ⟨_, rfl, rfl⟩, hS, fun _ _ => rfl⟩
      | 4, _ => exact stepV rfl rfl (execExtT rfl (hv 3 (by decide) _ rfl _ rfl) rfl) ⟨s, ⟨_, rfl, rfl⟩, hS, fun _ _ => rfl⟩
      | 5, _ => exact stepV rfl rfl (execExtT rfl (hv 3 (by decide) _ rfl _ rfl) rfl) ⟨s, ⟨_, rfl, rfl⟩, hS, fun _ _ => rfl⟩
      | 6, _ => exact stepV rfl rfl (execExtT rfl (hv 3 (by decide) _ rfl _ rfl) rfl) ⟨s, ⟨_, rfl, rfl⟩, hS, fun _ _ => rfl⟩
      | 7, _ => exact stepV rfl rfl (execAsgB rfl (hv 4 (by decide) _ rfl _ rfl)) ⟨s, ⟨_, rfl, rfl⟩, hS, fun _ _ => rfl⟩
      | 8, _ => exact stepV rfl rfl (execAsgB rfl (hv 5 (by decide) _ rfl _ rfl)) ⟨s, ⟨_, rfl, rfl⟩, hS, fun _ _ => rfl⟩
      | 9, _ => exact stepV rfl rfl (execAsgB rfl (hv 6 (by decide) _ rfl _ rfl)) ⟨s, ⟨_, rfl, rfl⟩, hS, fun _ _ => rfl⟩
      | k_ + 10, h_ => exact absurd h_ (by simp)
    rintro ⟨a91, o91⟩ a X13 h1 h2 h3 h4 hS
    clear BB
    clear FN2
    replace hS : Below X11.heap.size X11 X13 ∧ (FmI X11.heap.size 4 (updX (updX (updX (updX (fun _ => undef) 0 a84) 1 o84) 2 a91) 3 o91) (nn6 (paE sf J df m) m (drE sf J cf n vf k) n) (ff6 (pcF sf J df) (poF sf J df m) (dwF sf cf vf)) X13) := hS
    obtain ⟨BB, FN4⟩ := hS
    replace t32 := (h3 32 (by decide)).trans t32
    replace t33 := (h3 33 (by decide)).trans t33
    replace t34 := (h3 34 (by decide)).trans t34
    replace t4 := (h3 4 (by decide)).trans t4
    replace t5 := (h3 5 (by decide)).trans t5
    replace t6 := (h3 6 (by decide)).trans t6
    replace t7 := (h3 7 (by decide)).trans t7
    replace t8 := (h3 8 (by decide)).trans t8
    replace t9 := (h3 9 (by decide)).trans t9
    replace t10 := (h3 10 (by decide)).trans t10
    replace t11 := (h3 11 (by decide)).trans t11
    replace t12 := (h3 12 (by decide)).trans t12
    replace t13 := (h3 13 (by decide)).trans t13
    replace t14 := (h3 14 (by decide)).trans t14
    replace t15 := (h3 15 (by decide)).trans t15
    replace t16 := (h3 16 (by decide)).trans t16
    replace t17 := (h3 17 (by decide)).trans t17
    replace t18 := (h3 18 (by decide)).trans t18
    replace t19 := (h3 19 (by decide)).trans t19
    replace t20 := (h3 20 (by decide)).trans t20
    have t21 : a.eval (.tmp 21) = a91 := h4 7 _ rfl _ rfl
    have t22 : a.eval (.tmp 22) = o91 := h4 8 _ rfl _ rfl
    have t23 : a.eval (.tmp 23) = .int .i64 ((paE sf J df m : Nat) : Int) := h4 9 _ rfl _ rfl
    replace A := (⟨h1, h2.trans A.2⟩ : a.tmps.size = 271 ∧ a.defers = [])
    clear h1 h2 h3 h4
    refine wp_seq ?_
    refine wp_region_sq (σ := Value) 271 [(0, 96), (1, 97), (2, 98), (3, 99), (4, 95), (5, 100), (6, 101), (7, 24), (8, 25)] (fun j_ s X => match j_ with | 0 => Below X11.heap.size X11 X ∧ (FmI X11.heap.size 4 (updX (updX (updX (updX (fun _ => undef) 0 a84) 1 o84) 2 a91) 3 o91) (nn6 (paE sf J df m) m (drE sf J cf n vf k) n) (ff6 (pcF sf J df) (poF sf J df m) (dwF sf cf vf)) X) | 1 => Below X11.heap.size X11 X ∧ (FmI X11.heap.size 4 (updX (updX (updX (updX (fun _ => undef) 0 a84) 1 o84) 2 a91) 3 o91) (nn6 (paE sf J df m) m (drE sf J cf n vf k) n) (ff6 (pcF sf J df) (poF sf J df m) (dwF sf cf vf)) X) | 2 => Below X11.heap.size X11 X ∧ (FmI X11.heap.size 4 (updX (updX (updX (updX (fun _ => undef) 0 a84) 1 o84) 2 a91) 3 o91) (nn6 (paE sf J df m) m (drE sf J cf n vf k) n) (ff6 (pcF sf J df) (poF sf J df m) (dwF sf cf vf)) X) | 3 => Below X11.heap.size X11 X ∧ (FmI X11.heap.size 4 (updX (updX (updX (updX (fun _ => undef) 0 a84) 1 o84) 2 a91) 3 o91) (nn6 (paE sf J df m) m (drE sf J cf n vf k) n) (ff6 (pcF sf J df) (poF sf J df m) (dwF sf cf vf)) X) | 4 => Below X11.heap.size X11 X ∧ (FmI X11.heap.size 5 (updX (updX (updX (updX (updX (fun _ => undef) 0 a84) 1 o84) 2 a91) 3 o91) 4 s) (nn6 (paE sf J df m) m (drE sf J cf n vf k) n) (ff6 (pcF sf J df) (poF sf J df m) (dwF sf cf vf)) X) | 5 => Below X11.heap.size X11 X ∧ (FmI X11.heap.size 5 (updX (updX (updX (updX (updX (fun _ => undef) 0 a84) 1 o84) 2 a91) 3 o91) 4 s) (nn6 (paE sf J df m) m (drE sf J cf n vf k) n) (ff6 (pcF sf J df) (poF sf J df m) (dwF sf cf vf)) X) | 6 => Below X11.heap.size X11 X ∧ (FmI X11.heap.size 5 (updX (updX (updX (updX (updX (fun _ => undef) 0 a84) 1 o84) 2 a91) 3 o91) 4 s) (nn6 (paE sf J df m) m (drE sf J cf n vf k) n) (ff6 (pcF sf J df) (poF sf J df m) (dwF sf cf vf)) X) | 7 => Below X11.heap.size X11 X ∧ (FmI X11.heap.size 5 (updX (updX (updX (updX (updX (fun _ => undef) 0 a84) 1 o84) 2 a91) 3 o91) 4 s) (nn6 (paE sf J df m) m (drE sf J cf n vf k) n) (ff6 (pcF sf J df) (poF sf J df m) (dwF sf cf vf)) X) | 8 => Below X11.heap.size X11 X ∧ (FmI X11.heap.size 5 (updX (updX (updX (updX (updX (fun _ => undef) 0 a84) 1 o84) 2 a91) 3 o91) 4 s) (nn6 (paE sf J df m) m (drE sf J cf n vf k) n) (ff6 (pcF sf J df) (poF sf J df m) (dwF sf cf vf)) X) | _ => Below X11.heap.size X11 X ∧ (FmI X11.heap.size 5 (updX (updX (updX (updX (updX (fun _ => undef) 0 a84) 1 o84) 2 a91) 3 o91) 4 s) (nn6 (paE sf J df m) m (drE sf J cf n vf k) n) (ff6 (pcF sf J df) (poF sf J df m) (dwF sf cf vf)) X)) (fun s => fun i_ => match i_ with | 0 => .slice (some ⟨g41, 0, none⟩) J c41 | 1 => .slice (some ⟨g53, 0, none⟩) n c53 | 2 => .slice (some ⟨g59, 0, none⟩) k c59 | 3 => .tuple #[s, .int .i64 ((drE sf J cf n vf k : Nat) : Int)] | 4 => .tuple #[s, .int .i64 ((drE sf J cf n vf k : Nat) : Int)] | 5 => s | 6 => .int .i64 ((drE sf J cf n vf k : Nat) : Int) | 7 => s | 8 => .int .i64 ((drE sf J cf n vf k : Nat) : Int) | _ => undef) undef A.1 (by kernel_rfl) (by decide) (by decide) ⟨BB, FN4⟩ ?_ ?_
    · intro i_ hi_ s a X hf hv hn hS
      match i_, hi_ with
      | 0, _ => exact stepV rfl rfl (execMvB rfl ((hf 5 (by decide)).trans t5)) ⟨s, ⟨_, rfl, rfl⟩, hS, fun _ _ => rfl⟩
      | 1, _ => exact stepV rfl rfl (execMvB rfl ((hf 9 (by decide)).trans t9)) ⟨s, ⟨_, rfl, rfl⟩, hS, fun _ _ => rfl⟩
      | 2, _ => exact stepV rfl rfl (execMvB rfl ((hf 11 (by decide)).trans t11)) ⟨s, ⟨_, rfl, rfl⟩, hS, fun _ _ => rfl⟩
      | 3, _ =>
        refine stepC rfl rfl (execCall3 Try.func20 (by kernel_rfl) (by kernel_rfl) rfl (hv 0 (by decide) _ rfl _ rfl) (hv 1 (by decide) _ rfl _ rfl) (hv 2 (by decide) _ rfl _ rfl)) (pdraws12 sf cf vf J n k _ _ _ X (lent_in ((FM4.on hS.1).rows 0 (by omega)) hf0) (by omega) (lent_in ((FM4.on hS.1).rows 2 (by omega)) hf2) (by omega) (lent_in ((FM4.on hS.1).rows 3 (by omega)) hf3)) fun e w' hh => ?_
        obtain ⟨r0_, he, hk, hb⟩ := hh
        refine ⟨_, he, r0_, ⟨_, rfl, rfl⟩, ⟨(hS.1).trans ((hb).mono (hS.1).size), FmI.add (hS.2.on hb) (fun t ht b e => ((hS.2.rows t ht).lt b e).2) hk (hS.1).size rfl (fun j hj => rfl)⟩, fun i hi => ?_⟩
        match i, hi with
        | 0, _ => rfl
        | 1, _ => rfl
        | 2, _ => rfl
        | n_ + 3, h_ => omega
      | 4, _ => exact stepV rfl rfl (execMvB rfl (hv 3 (by decide) _ rfl _ rfl)) ⟨s, ⟨_, rfl, rfl⟩, hS, fun _ _ => rfl⟩
      | 5, _ => exact stepV rfl rfl (execExtT rfl (hv 4 (by decide) _ rfl _ rfl) rfl) ⟨s, ⟨_, rfl, rfl⟩, hS, fun _ _ => rfl⟩
      | 6, _ => exact stepV rfl rfl (execExtT rfl (hv 4 (by decide) _ rfl _ rfl) rfl) ⟨s, ⟨_, rfl, rfl⟩, hS, fun _ _ => rfl⟩
      | 7, _ => exact stepV rfl rfl (execAsgB rfl (hv 5 (by decide) _ rfl _ rfl)) ⟨s, ⟨_, rfl, rfl⟩, hS, fun _ _ => rfl⟩
      | 8, _ => exact stepV rfl rfl (execAsgB rfl (hv 6 (by decide) _ rfl _ rfl)) ⟨s, ⟨_, rfl, rfl⟩, hS, fun _ _ => rfl⟩
      | k_ + 9, h_ => exact absurd h_ (by simp)
    rintro d99 a X14 h1 h2 h3 h4 hS
    clear BB
    clear FN4
    replace hS : Below X11.heap.size X11 X14 ∧ (FmI X11.heap.size 5 (updX (updX (updX (updX (updX (fun _ => undef) 0 a84) 1 o84) 2 a91) 3 o91) 4 d99) (nn6 (paE sf J df m) m (drE sf J cf n vf k) n) (ff6 (pcF sf J df) (poF sf J df m) (dwF sf cf vf)) X14) := hS
    obtain ⟨BB, FN5⟩ := hS
    replace t32 := (h3 32 (by decide)).trans t32
    replace t33 := (h3 33 (by decide)).trans t33
    replace t34 := (h3 34 (by decide)).trans t34
    replace t4 := (h3 4 (by decide)).trans t4
    replace t5 := (h3 5 (by decide)).trans t5
    replace t6 := (h3 6 (by decide)).trans t6
    replace t7 := (h3 7 (by decide)).trans t7
    replace t8 := (h3 8 (by decide)).trans t8
    replace t9 := (h3 9 (by decide)).trans t9
    replace t10 := (h3 10 (by decide)).trans t10
    replace t11 := (h3 11 (by decide)).trans t11
    replace t12 := (h3 12 (by decide)).trans t12
    replace t13 := (h3 13 (by decide)).trans t13
    replace t14 := (h3 14 (by decide)).trans t14
    replace t15 := (h3 15 (by decide)).trans t15
    replace t16 := (h3 16 (by decide)).trans t16
    replace t17 := (h3 17 (by decide)).trans t17
    replace t18 := (h3 18 (by decide)).trans t18
    replace t19 := (h3 19 (by decide)).trans t19
    replace t20 := (h3 20 (by decide)).trans t20
    replace t21 := (h3 21 (by decide)).trans t21
    replace t22 := (h3 22 (by decide)).trans t22
    replace t23 := (h3 23 (by decide)).trans t23
    have t24 : a.eval (.tmp 24) = d99 := h4 7 _ rfl _ rfl
    have t25 : a.eval (.tmp 25) = .int .i64 ((drE sf J cf n vf k : Nat) : Int) := h4 8 _ rfl _ rfl
    replace A := (⟨h1, h2.trans A.2⟩ : a.tmps.size = 271 ∧ a.defers = [])
    clear h1 h2 h3 h4
    refine wp_seq ?_
    refine wp_region_sq (σ := Value) 271 [(0, 103), (1, 104), (2, 105), (3, 106), (4, 102), (5, 107), (6, 108), (7, 26), (8, 27)] (fun j_ s X => match j_ with | 0 => Below X11.heap.size X11 X ∧ (FmI X11.heap.size 5 (updX (updX (updX (updX (updX (fun _ => undef) 0 a84) 1 o84) 2 a91) 3 o91) 4 d99) (nn6 (paE sf J df m) m (drE sf J cf n vf k) n) (ff6 (pcF sf J df) (poF sf J df m) (dwF sf cf vf)) X) | 1 => Below X11.heap.size X11 X ∧ (FmI X11.heap.size 5 (updX (updX (updX (updX (updX (fun _ => undef) 0 a84) 1 o84) 2 a91) 3 o91) 4 d99) (nn6 (paE sf J df m) m (drE sf J cf n vf k) n) (ff6 (pcF sf J df) (poF sf J df m) (dwF sf cf vf)) X) | 2 => Below X11.heap.size X11 X ∧ (FmI X11.heap.size 5 (updX (updX (updX (updX (updX (fun _ => undef) 0 a84) 1 o84) 2 a91) 3 o91) 4 d99) (nn6 (paE sf J df m) m (drE sf J cf n vf k) n) (ff6 (pcF sf J df) (poF sf J df m) (dwF sf cf vf)) X) | 3 => Below X11.heap.size X11 X ∧ (FmI X11.heap.size 5 (updX (updX (updX (updX (updX (fun _ => undef) 0 a84) 1 o84) 2 a91) 3 o91) 4 d99) (nn6 (paE sf J df m) m (drE sf J cf n vf k) n) (ff6 (pcF sf J df) (poF sf J df m) (dwF sf cf vf)) X) | 4 => Below X11.heap.size X11 X ∧ (FmI X11.heap.size 6 (updX (updX (updX (updX (updX (updX (fun _ => undef) 0 a84) 1 o84) 2 a91) 3 o91) 4 d99) 5 s) (nn6 (paE sf J df m) m (drE sf J cf n vf k) n) (ff6 (pcF sf J df) (poF sf J df m) (dwF sf cf vf)) X) | 5 => Below X11.heap.size X11 X ∧ (FmI X11.heap.size 6 (updX (updX (updX (updX (updX (updX (fun _ => undef) 0 a84) 1 o84) 2 a91) 3 o91) 4 d99) 5 s) (nn6 (paE sf J df m) m (drE sf J cf n vf k) n) (ff6 (pcF sf J df) (poF sf J df m) (dwF sf cf vf)) X) | 6 => Below X11.heap.size X11 X ∧ (FmI X11.heap.size 6 (updX (updX (updX (updX (updX (updX (fun _ => undef) 0 a84) 1 o84) 2 a91) 3 o91) 4 d99) 5 s) (nn6 (paE sf J df m) m (drE sf J cf n vf k) n) (ff6 (pcF sf J df) (poF sf J df m) (dwF sf cf vf)) X) | 7 => Below X11.heap.size X11 X ∧ (FmI X11.heap.size 6 (updX (updX (updX (updX (updX (updX (fun _ => undef) 0 a84) 1 o84) 2 a91) 3 o91) 4 d99) 5 s) (nn6 (paE sf J df m) m (drE sf J cf n vf k) n) (ff6 (pcF sf J df) (poF sf J df m) (dwF sf cf vf)) X) | 8 => Below X11.heap.size X11 X ∧ (FmI X11.heap.size 6 (updX (updX (updX (updX (updX (updX (fun _ => undef) 0 a84) 1 o84) 2 a91) 3 o91) 4 d99) 5 s) (nn6 (paE sf J df m) m (drE sf J cf n vf k) n) (ff6 (pcF sf J df) (poF sf J df m) (dwF sf cf vf)) X) | _ => Below X11.heap.size X11 X ∧ (FmI X11.heap.size 6 (updX (updX (updX (updX (updX (updX (fun _ => undef) 0 a84) 1 o84) 2 a91) 3 o91) 4 d99) 5 s) (nn6 (paE sf J df m) m (drE sf J cf n vf k) n) (ff6 (pcF sf J df) (poF sf J df m) (dwF sf cf vf)) X)) (fun s => fun i_ => match i_ with | 0 => .slice (some ⟨g41, 0, none⟩) J c41 | 1 => .slice (some ⟨g53, 0, none⟩) n c53 | 2 => .slice (some ⟨g59, 0, none⟩) k c59 | 3 => .tuple #[s, .int .i64 ((drE sf J cf n vf k : Nat) : Int)] | 4 => .tuple #[s, .int .i64 ((drE sf J cf n vf k : Nat) : Int)] | 5 => s | 6 => .int .i64 ((drE sf J cf n vf k : Nat) : Int) | 7 => s | 8 => .int .i64 ((drE sf J cf n vf k : Nat) : Int) | _ => undef) undef A.1 (by kernel_rfl) (by decide) (by decide) ⟨BB, FN5⟩ ?_ ?_
    · intro i_ hi_ s a X hf hv hn hS
      match i_, hi_ with
      | 0, _ => exact stepV rfl rfl (execMvB rfl ((hf 5 (by decide)).trans t5)) ⟨s, ⟨_, rfl, rfl⟩, hS, fun _ _ => rfl⟩
      | 1, _ => exact stepV rfl rfl (execMvB rfl ((hf 9 (by decide)).trans t9)) ⟨s, ⟨_, rfl, rfl⟩, hS, fun _ _ => rfl⟩
      | 2, _ => exact stepV rfl rfl (execMvB rfl ((hf 11 (by decide)).trans t11)) ⟨s, ⟨_, rfl, rfl⟩, hS, fun _ _ => rfl⟩
      | 3, _ =>
        refine stepC rfl rfl (execCall3 Try.func20 (by kernel_rfl) (by kernel_rfl) rfl (hv 0 (by decide) _ rfl _ rfl) (hv 1 (by decide) _ rfl _ rfl) (hv 2 (by decide) _ rfl _ rfl)) (pdraws12 sf cf vf J n k _ _ _ X (lent_in ((FM4.on hS.1).rows 0 (by omega)) hf0) (by omega) (lent_in ((FM4.on hS.1).rows 2 (by omega)) hf2) (by omega) (lent_in ((FM4.on hS.1).rows 3 (by omega)) hf3)) fun e w' hh => ?_
        obtain ⟨r0_, he, hk, hb⟩ := hh
        refine ⟨_, he, r0_, ⟨_, rfl, rfl⟩, ⟨(hS.1).trans ((hb).mono (hS.1).size), FmI.add (hS.2.on hb) (fun t ht b e => ((hS.2.rows t ht).lt b e).2) hk (hS.1).size rfl (fun j hj => rfl)⟩, fun i hi => ?_⟩
        match i, hi with
        | 0, _ => rfl
        | 1, _ => rfl
        | 2, _ => rfl
        | n_ + 3, h_ => omega
      | 4, _ => exact stepV rfl rfl (execMvB rfl (hv 3 (by decide) _ rfl _ rfl)) ⟨s, ⟨_, rfl, rfl⟩, hS, fun _ _ => rfl⟩
      | 5, _ => exact stepV rfl rfl (execExtT rfl (hv 4 (by decide) _ rfl _ rfl) rfl) ⟨s, ⟨_, rfl, rfl⟩, hS, fun _ _ => rfl⟩
      | 6, _ => exact stepV rfl rfl (execExtT rfl (hv 4 (by decide) _ rfl _ rfl) rfl) ⟨s, ⟨_, rfl, rfl⟩, hS, fun _ _ => rfl⟩
      | 7, _ => exact stepV rfl rfl (execAsgB rfl (hv 5 (by decide) _ rfl _ rfl)) ⟨s, ⟨_, rfl, rfl⟩, hS, fun _ _ => rfl⟩
      | 8, _ => exact stepV rfl rfl (execAsgB rfl (hv 6 (by decide) _ rfl _ rfl)) ⟨s, ⟨_, rfl, rfl⟩, hS, fun _ _ => rfl⟩
      | k_ + 9, h_ => exact absurd h_ (by simp)
    rintro d106 a X15 h1 h2 h3 h4 hS
    clear BB
    clear FN5
    replace hS : Below X11.heap.size X11 X15 ∧ (FmI X11.heap.size 6 (updX (updX (updX (updX (updX (updX (fun _ => undef) 0 a84) 1 o84) 2 a91) 3 o91) 4 d99) 5 d106) (nn6 (paE sf J df m) m (drE sf J cf n vf k) n) (ff6 (pcF sf J df) (poF sf J df m) (dwF sf cf vf)) X15) := hS
    obtain ⟨BB, FN6⟩ := hS
    replace t32 := (h3 32 (by decide)).trans t32
    replace t33 := (h3 33 (by decide)).trans t33
    replace t34 := (h3 34 (by decide)).trans t34
    replace t4 := (h3 4 (by decide)).trans t4
    replace t5 := (h3 5 (by decide)).trans t5
    replace t6 := (h3 6 (by decide)).trans t6
    replace t7 := (h3 7 (by decide)).trans t7
    replace t8 := (h3 8 (by decide)).trans t8
    replace t9 := (h3 9 (by decide)).trans t9
    replace t10 := (h3 10 (by decide)).trans t10
    replace t11 := (h3 11 (by decide)).trans t11
    replace t12 := (h3 12 (by decide)).trans t12
    replace t13 := (h3 13 (by decide)).trans t13
    replace t14 := (h3 14 (by decide)).trans t14
    replace t15 := (h3 15 (by decide)).trans t15
    replace t16 := (h3 16 (by decide)).trans t16
    replace t17 := (h3 17 (by decide)).trans t17
    replace t18 := (h3 18 (by decide)).trans t18
    replace t19 := (h3 19 (by decide)).trans t19
    replace t20 := (h3 20 (by decide)).trans t20
    replace t21 := (h3 21 (by decide)).trans t21
    replace t22 := (h3 22 (by decide)).trans t22
    replace t23 := (h3 23 (by decide)).trans t23
    replace t24 := (h3 24 (by decide)).trans t24
    replace t25 := (h3 25 (by decide)).trans t25
    have t26 : a.eval (.tmp 26) = d106 := h4 7 _ rfl _ rfl
    have t27 : a.eval (.tmp 27) = .int .i64 ((drE sf J cf n vf k : Nat) : Int) := h4 8 _ rfl _ rfl
    replace A := (⟨h1, h2.trans A.2⟩ : a.tmps.size = 271 ∧ a.defers = [])
    clear h1 h2 h3 h4
    refine wp_seq ?_
    refine wp_seq ?_
    refine wp_region_sq (σ := Unit) 271 [(0, 109), (1, 110), (2, 111), (3, 112), (4, 113), (5, 114), (6, 115), (7, 116), (8, 117), (9, 118), (10, 119), (11, 120), (12, 121), (13, 122), (14, 123), (15, 124), (16, 125), (17, 126)] (fun j_ s X => match j_ with | 0 => Below X11.heap.size X11 X ∧ (FmI X11.heap.size 6 (updX (updX (updX (updX (updX (updX (fun _ => undef) 0 a84) 1 o84) 2 a91) 3 o91) 4 d99) 5 d106) (nn6 (paE sf J df m) m (drE sf J cf n vf k) n) (ff6 (pcF sf J df) (poF sf J df m) (dwF sf cf vf)) X) | 1 => Below X11.heap.size X11 X ∧ (FmI X11.heap.size 6 (updX (updX (updX (updX (updX (updX (fun _ => undef) 0 a84) 1 o84) 2 a91) 3 o91) 4 d99) 5 d106) (nn6 (paE sf J df m) m (drE sf J cf n vf k) n) (ff6 (pcF sf J df) (poF sf J df m) (dwF sf cf vf)) X) | 2 => Below X11.heap.size X11 X ∧ (FmI X11.heap.size 6 (updX (updX (updX (updX (updX (updX (fun _ => undef) 0 a84) 1 o84) 2 a91) 3 o91) 4 d99) 5 d106) (nn6 (paE sf J df m) m (drE sf J cf n vf k) n) (ff6 (pcF sf J df) (poF sf J df m) (dwF sf cf vf)) X) | 3 => Below X11.heap.size X11 X ∧ (FmI X11.heap.size 6 (updX (updX (updX (updX (updX (updX (fun _ => undef) 0 a84) 1 o84) 2 a91) 3 o91) 4 d99) 5 d106) (nn6 (paE sf J df m) m (drE sf J cf n vf k) n) (ff6 (pcF sf J df) (poF sf J df m) (dwF sf cf vf)) X) | 4 => Below X11.heap.size X11 X ∧ (FmI X11.heap.size 6 (updX (updX (updX (updX (updX (updX (fun _ => undef) 0 a84) 1 o84) 2 a91) 3 o91) 4 d99) 5 d106) (nn6 (paE sf J df m) m (drE sf J cf n vf k) n) (ff6 (pcF sf J df) (poF sf J df m) (dwF sf cf vf)) X) | 5 => Below X11.heap.size X11 X ∧ (FmI X11.heap.size 6 (updX (updX (updX (updX (updX (updX (fun _ => undef) 0 a84) 1 o84) 2 a91) 3 o91) 4 d99) 5 d106) (nn6 (paE sf J df m) m (drE sf J cf n vf k) n) (ff6 (pcF sf J df) (poF sf J df m) (dwF sf cf vf)) X) | 6 => Below X11.heap.size X11 X ∧ (FmI X11.heap.size 6 (updX (updX (updX (updX (updX (updX (fun _ => undef) 0 a84) 1 o84) 2 a91) 3 o91) 4 d99) 5 d106) (nn6 (paE sf J df m) m (drE sf J cf n vf k) n) (ff6 (pcF sf J df) (poF sf J df m) (dwF sf cf vf)) X) | 7 => Below X11.heap.size X11 X ∧ (FmI X11.heap.size 6 (updX (updX (updX (updX (updX (updX (fun _ => undef) 0 a84) 1 o84) 2 a91) 3 o91) 4 d99) 5 d106) (nn6 (paE sf J df m) m (drE sf J cf n vf k) n) (ff6 (pcF sf J df) (poF sf J df m) (dwF sf cf vf)) X) | 8 => Below X11.heap.size X11 X ∧ (FmI X11.heap.size 6 (updX (updX (updX (updX (updX (updX (fun _ => undef) 0 a84) 1 o84) 2 a91) 3 o91) 4 d99) 5 d106) (nn6 (paE sf J df m) m (drE sf J cf n vf k) n) (ff6 (pcF sf J df) (poF sf J df m) (dwF sf cf vf)) X) | 9 => Below X11.heap.size X11 X ∧ (FmI X11.heap.size 6 (updX (updX (updX (updX (updX (updX (fun _ => undef) 0 a84) 1 o84) 2 a91) 3 o91) 4 d99) 5 d106) (nn6 (paE sf J df m) m (drE sf J cf n vf k) n) (ff6 (pcF sf J df) (poF sf J df m) (dwF sf cf vf)) X) | 10 => Below X11.heap.size X11 X ∧ (FmI X11.heap.size 6 (updX (updX (updX (updX (updX (updX (fun _ => undef) 0 a84) 1 o84) 2 a91) 3 o91) 4 d99) 5 d106) (nn6 (paE sf J df m) m (drE sf J cf n vf k) n) (ff6 (pcF sf J df) (poF sf J df m) (dwF sf cf vf)) X) | 11 => Below X11.heap.size X11 X ∧ (FmI X11.heap.size 6 (updX (updX (updX (updX (updX (updX (fun _ => undef) 0 a84) 1 o84) 2 a91) 3 o91) 4 d99) 5 d106) (nn6 (paE sf J df m) m (drE sf J cf n vf k) n) (ff6 (pcF sf J df) (poF sf J df m) (dwF sf cf vf)) X) | 12 => Below X11.heap.size X11 X ∧ (FmI X11.heap.size 6 (updX (updX (updX (updX (updX (updX (fun _ => undef) 0 a84) 1 o84) 2 a91) 3 o91) 4 d99) 5 d106) (nn6 (paE sf J df m) m (drE sf J cf n vf k) n) (ff6 (pcF sf J df) (poF sf J df m) (dwF sf cf vf)) X) | 13 => Below X11.heap.size X11 X ∧ (FmI X11.heap.size 6 (updX (updX (updX (updX (updX (updX (fun _ => undef) 0 a84) 1 o84) 2 a91) 3 o91) 4 d99) 5 d106) (nn6 (paE sf J df m) m (drE sf J cf n vf k) n) (ff6 (pcF sf J df) (poF sf J df m) (dwF sf cf vf)) X) | 14 => Below X11.heap.size X11 X ∧ (FmI X11.heap.size 6 (updX (updX (updX (updX (updX (updX (fun _ => undef) 0 a84) 1 o84) 2 a91) 3 o91) 4 d99) 5 d106) (nn6 (paE sf J df m) m (drE sf J cf n vf k) n) (ff6 (pcF sf J df) (poF sf J df m) (dwF sf cf vf)) X) | 15 => Below X11.heap.size X11 X ∧ (FmI X11.heap.size 6 (updX (updX (updX (updX (updX (updX (fun _ => undef) 0 a84) 1 o84) 2 a91) 3 o91) 4 d99) 5 d106) (nn6 (paE sf J df m) m (drE sf J cf n vf k) n) (ff6 (pcF sf J df) (poF sf J df m) (dwF sf cf vf)) X) | 16 => Below X11.heap.size X11 X ∧ (FmI X11.heap.size 6 (updX (updX (updX (updX (updX (updX (fun _ => undef) 0 a84) 1 o84) 2 a91) 3 o91) 4 d99) 5 d106) (nn6 (paE sf J df m) m (drE sf J cf n vf k) n) (ff6 (pcF sf J df) (poF sf J df m) (dwF sf cf vf)) X) | 17 => Below X11.heap.size X11 X ∧ (FmI X11.heap.size 6 (updX (updX (updX (updX (updX (updX (fun _ => undef) 0 a84) 1 o84) 2 a91) 3 o91) 4 d99) 5 d106) (nn6 (paE sf J df m) m (drE sf J cf n vf k) n) (ff6 (pcF sf J df) (poF sf J df m) (dwF sf cf vf)) X) | _ => Below X11.heap.size X11 X ∧ (FmI X11.heap.size 6 (updX (updX (updX (updX (updX (updX (fun _ => undef) 0 a84) 1 o84) 2 a91) 3 o91) 4 d99) 5 d106) (nn6 (paE sf J df m) m (drE sf J cf n vf k) n) (ff6 (pcF sf J df) (poF sf J df m) (dwF sf cf vf)) X)) (fun s => fun i_ => match i_ with | 0 => .int .i64 ((paE sf J df m : Nat) : Int) | 1 => .int .i64 ((paE sf J df m : Nat) : Int) | 2 => .bool false | 3 => .bool false | 4 => .int .i64 ((paE sf J df m : Nat) : Int) | 5 => .int .i64 ((paE sf J df m : Nat) : Int) | 6 => .bool false | 7 => .bool false | 8 => .bool false | 9 => .int .i64 ((drE sf J cf n vf k : Nat) : Int) | 10 => .int .i64 ((drE sf J cf n vf k : Nat) : Int) | 11 => .bool false | 12 => .bool false | 13 => .bool false | 14 => .int .i64 ((drE sf J cf n vf k : Nat) : Int) | 15 => .int .i64 ((drE sf J cf n vf k : Nat) : Int) | 16 => .bool false | 17 => .bool false | _ => undef) () A.1 (by kernel_rfl) (by decide) (by decide) ⟨BB, FN6⟩ ?_ ?_
    · intro i_ hi_ s a X hf hv hn hS
      match i_, hi_ with
      | 0, _ => exact stepV rfl rfl (execMvB rfl ((hf 20 (by decide)).trans t20)) ⟨s, ⟨_, rfl, rfl⟩, hS, fun _ _ => rfl⟩
      | 1, _ => exact stepV rfl rfl (execMvB rfl ((hf 15 (by decide)).trans t15)) ⟨s, ⟨_, rfl, rfl⟩, hS, fun _ _ => rfl⟩
      | 2, _ => exact stepV rfl rfl (execDec (execNeN (p := paE sf J df m) (q := paE sf J df m) rfl (hv 0 (by decide) _ rfl _ rfl) (hv 1 (by decide) _ rfl _ rfl)) (decide_eq_false (by omega))) ⟨s, ⟨_, rfl, rfl⟩, hS, fun _ _ => rfl⟩
      | 3, _ => exact stepV rfl rfl (execMvB rfl (hv 2 (by decide) _ rfl _ rfl)) ⟨s, ⟨_, rfl, rfl⟩, hS, fun _ _ => rfl⟩
      | 4, _ => exact stepV rfl (wantedOf rfl (yieldedAt rfl rfl (show a.eval (.tmp 112) = .bool false from (hv 3 (by decide) _ rfl _ rfl)))) (execMvB rfl ((hf 23 (by decide)).trans t23)) ⟨s, ⟨_, rfl, rfl⟩, hS, fun _ _ => rfl⟩
      | 5, _ => exact stepV rfl (wantedOf rfl (yieldedAt rfl rfl (show a.eval (.tmp 112) = .bool false from (hv 3 (by decide) _ rfl _ rfl)))) (execMvB rfl ((hf 15 (by decide)).trans t15)) ⟨s, ⟨_, rfl, rfl⟩, hS, fun _ _ => rfl⟩
      | 6, _ => exact stepV rfl (wantedOf rfl (yieldedAt rfl rfl (show a.eval (.tmp 112) = .bool false from (hv 3 (by decide) _ rfl _ rfl)))) (execDec (execNeN (p := paE sf J df m) (q := paE sf J df m) rfl (hv 4 (by decide) _ rfl _ rfl) (hv 5 (by decide) _ rfl _ rfl)) (decide_eq_false (by omega))) ⟨s, ⟨_, rfl, rfl⟩, hS, fun _ _ => rfl⟩
      | 7, _ => exact stepV rfl rfl (execPickF rfl (hv 3 (by decide) _ rfl _ rfl) (hv 6 (by decide) _ rfl _ rfl)) ⟨s, ⟨_, rfl, rfl⟩, hS, fun _ _ => rfl⟩
      | 8, _ => exact stepV rfl rfl (execMvB rfl (hv 7 (by decide) _ rfl _ rfl)) ⟨s, ⟨_, rfl, rfl⟩, hS, fun _ _ => rfl⟩
      | 9, _ => exact stepV rfl (wantedOf rfl (yieldedAt rfl rfl (show a.eval (.tmp 117) = .bool false from (hv 8 (by decide) _ rfl _ rfl)))) (execMvB rfl ((hf 25 (by decide)).trans t25)) ⟨s, ⟨_, rfl, rfl⟩, hS, fun _ _ => rfl⟩
      | 10, _ => exact stepV rfl (wantedOf rfl (yieldedAt rfl rfl (show a.eval (.tmp 117) = .bool false from (hv 8 (by decide) _ rfl _ rfl)))) (execMvB rfl ((hf 17 (by decide)).trans t17)) ⟨s, ⟨_, rfl, rfl⟩, hS, fun _ _ => rfl⟩
      | 11, _ => exact stepV rfl (wantedOf rfl (yieldedAt rfl rfl (show a.eval (.tmp 117) = .bool false from (hv 8 (by decide) _ rfl _ rfl)))) (execDec (execNeN (p := drE sf J cf n vf k) (q := drE sf J cf n vf k) rfl (hv 9 (by decide) _ rfl _ rfl) (hv 10 (by decide) _ rfl _ rfl)) (decide_eq_false (by omega))) ⟨s, ⟨_, rfl, rfl⟩, hS, fun _ _ => rfl⟩
      | 12, _ => exact stepV rfl rfl (execPickF rfl (hv 8 (by decide) _ rfl _ rfl) (hv 11 (by decide) _ rfl _ rfl)) ⟨s, ⟨_, rfl, rfl⟩, hS, fun _ _ => rfl⟩
      | 13, _ => exact stepV rfl rfl (execMvB rfl (hv 12 (by decide) _ rfl _ rfl)) ⟨s, ⟨_, rfl, rfl⟩, hS, fun _ _ => rfl⟩
      | 14, _ => exact stepV rfl (wantedOf rfl (yieldedAt rfl rfl (show a.eval (.tmp 122) = .bool false from (hv 13 (by decide) _ rfl _ rfl)))) (execMvB rfl ((hf 27 (by decide)).trans t27)) ⟨s, ⟨_, rfl, rfl⟩, hS, fun _ _ => rfl⟩
      | 15, _ => exact stepV rfl (wantedOf rfl (yieldedAt rfl rfl (show a.eval (.tmp 122) = .bool false from (hv 13 (by decide) _ rfl _ rfl)))) (execMvB rfl ((hf 17 (by decide)).trans t17)) ⟨s, ⟨_, rfl, rfl⟩, hS, fun _ _ => rfl⟩
      | 16, _ => exact stepV rfl (wantedOf rfl (yieldedAt rfl rfl (show a.eval (.tmp 122) = .bool false from (hv 13 (by decide) _ rfl _ rfl)))) (execDec (execNeN (p := drE sf J cf n vf k) (q := drE sf J cf n vf k) rfl (hv 14 (by decide) _ rfl _ rfl) (hv 15 (by decide) _ rfl _ rfl)) (decide_eq_false (by omega))) ⟨s, ⟨_, rfl, rfl⟩, hS, fun _ _ => rfl⟩
      | 17, _ => exact stepV rfl rfl (execPickF rfl (hv 13 (by decide) _ rfl _ rfl) (hv 16 (by decide) _ rfl _ rfl)) ⟨s, ⟨_, rfl, rfl⟩, hS, fun _ _ => rfl⟩
      | k_ + 18, h_ => exact absurd h_ (by simp)
    rintro _ a X16 h1 h2 h3 h4 hS
    clear BB
    clear FN6
    replace hS : Below X11.heap.size X11 X16 ∧ (FmI X11.heap.size 6 (updX (updX (updX (updX (updX (updX (fun _ => undef) 0 a84) 1 o84) 2 a91) 3 o91) 4 d99) 5 d106) (nn6 (paE sf J df m) m (drE sf J cf n vf k) n) (ff6 (pcF sf J df) (poF sf J df m) (dwF sf cf vf)) X16) := hS
    obtain ⟨BB, FN6⟩ := hS
    replace t32 := (h3 32 (by decide)).trans t32
    replace t33 := (h3 33 (by decide)).trans t33
    replace t34 := (h3 34 (by decide)).trans t34
    replace t4 := (h3 4 (by decide)).trans t4
    replace t5 := (h3 5 (by decide)).trans t5
    replace t6 := (h3 6 (by decide)).trans t6
    replace t7 := (h3 7 (by decide)).trans t7
    replace t8 := (h3 8 (by decide)).trans t8
    replace t9 := (h3 9 (by decide)).trans t9
    replace t10 := (h3 10 (by decide)).trans t10
    replace t11 := (h3 11 (by decide)).trans t11
    replace t12 := (h3 12 (by decide)).trans t12
    replace t13 := (h3 13 (by decide)).trans t13
    replace t14 := (h3 14 (by decide)).trans t14
    replace t16 := (h3 16 (by decide)).trans t16
    replace t18 := (h3 18 (by decide)).trans t18
    replace t19 := (h3 19 (by decide)).trans t19
    replace t21 := (h3 21 (by decide)).trans t21
    replace t22 := (h3 22 (by decide)).trans t22
    replace t24 := (h3 24 (by decide)).trans t24
    replace t26 := (h3 26 (by decide)).trans t26
    have t126 : a.eval (.tmp 126) = .bool false := h4 17 _ rfl _ rfl
    replace A := (⟨h1, h2.trans A.2⟩ : a.tmps.size = 271 ∧ a.defers = [])
    clear h1 h2 h3 h4
    clear t15 t17 t20 t23 t25 t27
    refine wp_cond_false t126 ?_
    refine wp_skip ?_
    clear t126
    refine wp_seq ?_
    refine wp_seq ?_
    refine wp_region_sq (σ := Unit) 271 [(0, 127), (1, 128), (2, 129), (3, 130), (4, 131), (5, 132), (6, 133), (7, 134), (8, 135), (9, 136), (10, 137), (11, 138), (12, 139), (13, 140), (14, 141), (15, 142), (16, 143), (17, 144), (18, 145), (19, 146), (20, 147), (21, 148), (22, 149), (23, 150), (24, 151), (25, 152), (26, 153), (27, 154), (28, 155), (29, 156), (30, 157), (31, 158), (32, 159), (33, 160)] (fun j_ s X => match j_ with | 0 => Below X11.heap.size X11 X ∧ (FmI X11.heap.size 6 (updX (updX (updX (updX (updX (updX (fun _ => undef) 0 a84) 1 o84) 2 a91) 3 o91) 4 d99) 5 d106) (nn6 (paE sf J df m) m (drE sf J cf n vf k) n) (ff6 (pcF sf J df) (poF sf J df m) (dwF sf cf vf)) X) | 1 => Below X11.heap.size X11 X ∧ (FmI X11.heap.size 6 (updX (updX (updX (updX (updX (updX (fun _ => undef) 0 a84) 1 o84) 2 a91) 3 o91) 4 d99) 5 d106) (nn6 (paE sf J df m) m (drE sf J cf n vf k) n) (ff6 (pcF sf J df) (poF sf J df m) (dwF sf cf vf)) X) | 2 => Below X11.heap.size X11 X ∧ (FmI X11.heap.size 6 (updX (updX (updX (updX (updX (updX (fun _ => undef) 0 a84) 1 o84) 2 a91) 3 o91) 4 d99) 5 d106) (nn6 (paE sf J df m) m (drE sf J cf n vf k) n) (ff6 (pcF sf J df) (poF sf J df m) (dwF sf cf vf)) X) | 3 => Below X11.heap.size X11 X ∧ (FmI X11.heap.size 6 (updX (updX (updX (updX (updX (updX (fun _ => undef) 0 a84) 1 o84) 2 a91) 3 o91) 4 d99) 5 d106) (nn6 (paE sf J df m) m (drE sf J cf n vf k) n) (ff6 (pcF sf J df) (poF sf J df m) (dwF sf cf vf)) X) | 4 => Below X11.heap.size X11 X ∧ (FmI X11.heap.size 6 (updX (updX (updX (updX (updX (updX (fun _ => undef) 0 a84) 1 o84) 2 a91) 3 o91) 4 d99) 5 d106) (nn6 (paE sf J df m) m (drE sf J cf n vf k) n) (ff6 (pcF sf J df) (poF sf J df m) (dwF sf cf vf)) X) | 5 => Below X11.heap.size X11 X ∧ (FmI X11.heap.size 6 (updX (updX (updX (updX (updX (updX (fun _ => undef) 0 a84) 1 o84) 2 a91) 3 o91) 4 d99) 5 d106) (nn6 (paE sf J df m) m (drE sf J cf n vf k) n) (ff6 (pcF sf J df) (poF sf J df m) (dwF sf cf vf)) X) | 6 => Below X11.heap.size X11 X ∧ (FmI X11.heap.size 6 (updX (updX (updX (updX (updX (updX (fun _ => undef) 0 a84) 1 o84) 2 a91) 3 o91) 4 d99) 5 d106) (nn6 (paE sf J df m) m (drE sf J cf n vf k) n) (ff6 (pcF sf J df) (poF sf J df m) (dwF sf cf vf)) X) | 7 => Below X11.heap.size X11 X ∧ (FmI X11.heap.size 6 (updX (updX (updX (updX (updX (updX (fun _ => undef) 0 a84) 1 o84) 2 a91) 3 o91) 4 d99) 5 d106) (nn6 (paE sf J df m) m (drE sf J cf n vf k) n) (ff6 (pcF sf J df) (poF sf J df m) (dwF sf cf vf)) X) | 8 => Below X11.heap.size X11 X ∧ (FmI X11.heap.size 6 (updX (updX (updX (updX (updX (updX (fun _ => undef) 0 a84) 1 o84) 2 a91) 3 o91) 4 d99) 5 d106) (nn6 (paE sf J df m) m (drE sf J cf n vf k) n) (ff6 (pcF sf J df) (poF sf J df m) (dwF sf cf vf)) X) | 9 => Below X11.heap.size X11 X ∧ (FmI X11.heap.size 6 (updX (updX (updX (updX (updX (updX (fun _ => undef) 0 a84) 1 o84) 2 a91) 3 o91) 4 d99) 5 d106) (nn6 (paE sf J df m) m (drE sf J cf n vf k) n) (ff6 (pcF sf J df) (poF sf J df m) (dwF sf cf vf)) X) | 10 => Below X11.heap.size X11 X ∧ (FmI X11.heap.size 6 (updX (updX (updX (updX (updX (updX (fun _ => undef) 0 a84) 1 o84) 2 a91) 3 o91) 4 d99) 5 d106) (nn6 (paE sf J df m) m (drE sf J cf n vf k) n) (ff6 (pcF sf J df) (poF sf J df m) (dwF sf cf vf)) X) | 11 => Below X11.heap.size X11 X ∧ (FmI X11.heap.size 6 (updX (updX (updX (updX (updX (updX (fun _ => undef) 0 a84) 1 o84) 2 a91) 3 o91) 4 d99) 5 d106) (nn6 (paE sf J df m) m (drE sf J cf n vf k) n) (ff6 (pcF sf J df) (poF sf J df m) (dwF sf cf vf)) X) | 12 => Below X11.heap.size X11 X ∧ (FmI X11.heap.size 6 (updX (updX (updX (updX (updX (updX (fun _ => undef) 0 a84) 1 o84) 2 a91) 3 o91) 4 d99) 5 d106) (nn6 (paE sf J df m) m (drE sf J cf n vf k) n) (ff6 (pcF sf J df) (poF sf J df m) (dwF sf cf vf)) X) | 13 => Below X11.heap.size X11 X ∧ (FmI X11.heap.size 6 (updX (updX (updX (updX (updX (updX (fun _ => undef) 0 a84) 1 o84) 2 a91) 3 o91) 4 d99) 5 d106) (nn6 (paE sf J df m) m (drE sf J cf n vf k) n) (ff6 (pcF sf J df) (poF sf J df m) (dwF sf cf vf)) X) | 14 => Below X11.heap.size X11 X ∧ (FmI X11.heap.size 6 (updX (updX (updX (updX (updX (updX (fun _ => undef) 0 a84) 1 o84) 2 a91) 3 o91) 4 d99) 5 d106) (nn6 (paE sf J df m) m (drE sf J cf n vf k) n) (ff6 (pcF sf J df) (poF sf J df m) (dwF sf cf vf)) X) | 15 => Below X11.heap.size X11 X ∧ (FmI X11.heap.size 6 (updX (updX (updX (updX (updX (updX (fun _ => undef) 0 a84) 1 o84) 2 a91) 3 o91) 4 d99) 5 d106) (nn6 (paE sf J df m) m (drE sf J cf n vf k) n) (ff6 (pcF sf J df) (poF sf J df m) (dwF sf cf vf)) X) | 16 => Below X11.heap.size X11 X ∧ (FmI X11.heap.size 6 (updX (updX (updX (updX (updX (updX (fun _ => undef) 0 a84) 1 o84) 2 a91) 3 o91) 4 d99) 5 d106) (nn6 (paE sf J df m) m (drE sf J cf n vf k) n) (ff6 (pcF sf J df) (poF sf J df m) (dwF sf cf vf)) X) | 17 => Below X11.heap.size X11 X ∧ (FmI X11.heap.size 6 (updX (updX (updX (updX (updX (updX (fun _ => undef) 0 a84) 1 o84) 2 a91) 3 o91) 4 d99) 5 d106) (nn6 (paE sf J df m) m (drE sf J cf n vf k) n) (ff6 (pcF sf J df) (poF sf J df m) (dwF sf cf vf)) X) | 18 => Below X11.heap.size X11 X ∧ (FmI X11.heap.size 6 (updX (updX (updX (updX (updX (updX (fun _ => undef) 0 a84) 1 o84) 2 a91) 3 o91) 4 d99) 5 d106) (nn6 (paE sf J df m) m (drE sf J cf n vf k) n) (ff6 (pcF sf J df) (poF sf J df m) (dwF sf cf vf)) X) | 19 => Below X11.heap.size X11 X ∧ (FmI X11.heap.size 6 (updX (updX (updX (updX (updX (updX (fun _ => undef) 0 a84) 1 o84) 2 a91) 3 o91) 4 d99) 5 d106) (nn6 (paE sf J df m) m (drE sf J cf n vf k) n) (ff6 (pcF sf J df) (poF sf J df m) (dwF sf cf vf)) X) | 20 => Below X11.heap.size X11 X ∧ (FmI X11.heap.size 6 (updX (updX (updX (updX (updX (updX (fun _ => undef) 0 a84) 1 o84) 2 a91) 3 o91) 4 d99) 5 d106) (nn6 (paE sf J df m) m (drE sf J cf n vf k) n) (ff6 (pcF sf J df) (poF sf J df m) (dwF sf cf vf)) X) | 21 => Below X11.heap.size X11 X ∧ (FmI X11.heap.size 6 (updX (updX (updX (updX (updX (updX (fun _ => undef) 0 a84) 1 o84) 2 a91) 3 o91) 4 d99) 5 d106) (nn6 (paE sf J df m) m (drE sf J cf n vf k) n) (ff6 (pcF sf J df) (poF sf J df m) (dwF sf cf vf)) X) | 22 => Below X11.heap.size X11 X ∧ (FmI X11.heap.size 6 (updX (updX (updX (updX (updX (updX (fun _ => undef) 0 a84) 1 o84) 2 a91) 3 o91) 4 d99) 5 d106) (nn6 (paE sf J df m) m (drE sf J cf n vf k) n) (ff6 (pcF sf J df) (poF sf J df m) (dwF sf cf vf)) X) | 23 => Below X11.heap.size X11 X ∧ (FmI X11.heap.size 6 (updX (updX (updX (updX (updX (updX (fun _ => undef) 0 a84) 1 o84) 2 a91) 3 o91) 4 d99) 5 d106) (nn6 (paE sf J df m) m (drE sf J cf n vf k) n) (ff6 (pcF sf J df) (poF sf J df m) (dwF sf cf vf)) X) | 24 => Below X11.heap.size X11 X ∧ (FmI X11.heap.size 6 (updX (updX (updX (updX (updX (updX (fun _ => undef) 0 a84) 1 o84) 2 a91) 3 o91) 4 d99) 5 d106) (nn6 (paE sf J df m) m (drE sf J cf n vf k) n) (ff6 (pcF sf J df) (poF sf J df m) (dwF sf cf vf)) X) | 25 => Below X11.heap.size X11 X ∧ (FmI X11.heap.size 6 (updX (updX (updX (updX (updX (updX (fun _ => undef) 0 a84) 1 o84) 2 a91) 3 o91) 4 d99) 5 d106) (nn6 (paE sf J df m) m (drE sf J cf n vf k) n) (ff6 (pcF sf J df) (poF sf J df m) (dwF sf cf vf)) X) | 26 => Below X11.heap.size X11 X ∧ (FmI X11.heap.size 6 (updX (updX (updX (updX (updX (updX (fun _ => undef) 0 a84) 1 o84) 2 a91) 3 o91) 4 d99) 5 d106) (nn6 (paE sf J df m) m (drE sf J cf n vf k) n) (ff6 (pcF sf J df) (poF sf J df m) (dwF sf cf vf)) X) | 27 => Below X11.heap.size X11 X ∧ (FmI X11.heap.size 6 (updX (updX (updX (updX (updX (updX (fun _ => undef) 0 a84) 1 o84) 2 a91) 3 o91) 4 d99) 5 d106) (nn6 (paE sf J df m) m (drE sf J cf n vf k) n) (ff6 (pcF sf J df) (poF sf J df m) (dwF sf cf vf)) X) | 28 => Below X11.heap.size X11 X ∧ (FmI X11.heap.size 6 (updX (updX (updX (updX (updX (updX (fun _ => undef) 0 a84) 1 o84) 2 a91) 3 o91) 4 d99) 5 d106) (nn6 (paE sf J df m) m (drE sf J cf n vf k) n) (ff6 (pcF sf J df) (poF sf J df m) (dwF sf cf vf)) X) | 29 => Below X11.heap.size X11 X ∧ (FmI X11.heap.size 6 (updX (updX (updX (updX (updX (updX (fun _ => undef) 0 a84) 1 o84) 2 a91) 3 o91) 4 d99) 5 d106) (nn6 (paE sf J df m) m (drE sf J cf n vf k) n) (ff6 (pcF sf J df) (poF sf J df m) (dwF sf cf vf)) X) | 30 => Below X11.heap.size X11 X ∧ (FmI X11.heap.size 6 (updX (updX (updX (updX (updX (updX (fun _ => undef) 0 a84) 1 o84) 2 a91) 3 o91) 4 d99) 5 d106) (nn6 (paE sf J df m) m (drE sf J cf n vf k) n) (ff6 (pcF sf J df) (poF sf J df m) (dwF sf cf vf)) X) | 31 => Below X11.heap.size X11 X ∧ (FmI X11.heap.size 6 (updX (updX (updX (updX (updX (updX (fun _ => undef) 0 a84) 1 o84) 2 a91) 3 o91) 4 d99) 5 d106) (nn6 (paE sf J df m) m (drE sf J cf n vf k) n) (ff6 (pcF sf J df) (poF sf J df m) (dwF sf cf vf)) X) | 32 => Below X11.heap.size X11 X ∧ (FmI X11.heap.size 6 (updX (updX (updX (updX (updX (updX (fun _ => undef) 0 a84) 1 o84) 2 a91) 3 o91) 4 d99) 5 d106) (nn6 (paE sf J df m) m (drE sf J cf n vf k) n) (ff6 (pcF sf J df) (poF sf J df m) (dwF sf cf vf)) X) | 33 => Below X11.heap.size X11 X ∧ (FmI X11.heap.size 6 (updX (updX (updX (updX (updX (updX (fun _ => undef) 0 a84) 1 o84) 2 a91) 3 o91) 4 d99) 5 d106) (nn6 (paE sf J df m) m (drE sf J cf n vf k) n) (ff6 (pcF sf J df) (poF sf J df m) (dwF sf cf vf)) X) | _ => Below X11.heap.size X11 X ∧ (FmI X11.heap.size 6 (updX (updX (updX (updX (updX (updX (fun _ => undef) 0 a84) 1 o84) 2 a91) 3 o91) 4 d99) 5 d106) (nn6 (paE sf J df m) m (drE sf J cf n vf k) n) (ff6 (pcF sf J df) (poF sf J df m) (dwF sf cf vf)) X)) (fun s => fun i_ => match i_ with | 0 => a84 | 1 => a67 | 2 => .bool true | 3 => .bool false | 4 => .bool false | 5 => a91 | 6 => a67 | 7 => .bool true | 8 => .bool false | 9 => .bool false | 10 => .bool false | 11 => o84 | 12 => o67 | 13 => .bool true | 14 => .bool false | 15 => .bool false | 16 => .bool false | 17 => o91 | 18 => o67 | 19 => .bool true | 20 => .bool false | 21 => .bool false | 22 => .bool false | 23 => d99 | 24 => d78 | 25 => .bool true | 26 => .bool false | 27 => .bool false | 28 => .bool false | 29 => d106 | 30 => d78 | 31 => .bool true | 32 => .bool false | 33 => .bool false | _ => undef) () A.1 (by kernel_rfl) (by decide) (by decide) ⟨BB, FN6⟩ ?_ ?_
    · intro i_ hi_ s a X hf hv hn hS
      match i_, hi_ with
      | 0, _ => exact stepV rfl rfl (execMvB rfl ((hf 18 (by decide)).trans t18)) ⟨s, ⟨_, rfl, rfl⟩, hS, fun _ _ => rfl⟩
      | 1, _ => exact stepV rfl rfl (execMvB rfl ((hf 13 (by decide)).trans t13)) ⟨s, ⟨_, rfl, rfl⟩, hS, fun _ _ => rfl⟩
      | 2, _ => exact stepC rfl rfl (execCall2 Try.func14 (by kernel_rfl) (by kernel_rfl) rfl (hv 0 (by decide) _ rfl _ rfl) (hv 1 (by decide) _ rfl _ rfl)) (same_t _ _ (zl (paE sf J df m) m) _ _ X (own_ints (hS.2.rows 0 (by omega)) (pc_fits (by omega))) (Fa67.on hS.1) (fun _ _ => rfl) (by have h1_ := zl_le (paE sf J df m) m; have h2_ := zl_le (drE sf J cf n vf k) n; omega)) fun e w' hh => ⟨_, hh.1, s, ⟨_, rfl, rfl⟩, ⟨(hS.1).trans ((hh.2).mono (hS.1).size), (hS.2.on hh.2)⟩, fun _ _ => rfl⟩
      | 3, _ => exact stepV rfl rfl (execNot8 rfl (hv 2 (by decide) _ rfl _ rfl)) ⟨s, ⟨_, rfl, rfl⟩, hS, fun _ _ => rfl⟩
      | 4, _ => exact stepV rfl rfl (execMvB rfl (hv 3 (by decide) _ rfl _ rfl)) ⟨s, ⟨_, rfl, rfl⟩, hS, fun _ _ => rfl⟩
      | 5, _ => exact stepV rfl (wantedOf rfl (yieldedAt rfl rfl (show a.eval (.tmp 131) = .bool false from (hv 4 (by decide) _ rfl _ rfl)))) (execMvB rfl ((hf 21 (by decide)).trans t21)) ⟨s, ⟨_, rfl, rfl⟩, hS, fun _ _ => rfl⟩
      | 6, _ => exact stepV rfl (wantedOf rfl (yieldedAt rfl rfl (show a.eval (.tmp 131) = .bool false from (hv 4 (by decide) _ rfl _ rfl)))) (execMvB rfl ((hf 13 (by decide)).trans t13)) ⟨s, ⟨_, rfl, rfl⟩, hS, fun _ _ => rfl⟩
      | 7, _ => exact stepC rfl (wantedOf rfl (yieldedAt rfl rfl (show a.eval (.tmp 131) = .bool false from (hv 4 (by decide) _ rfl _ rfl)))) (execCall2 Try.func14 (by kernel_rfl) (by kernel_rfl) rfl (hv 5 (by decide) _ rfl _ rfl) (hv 6 (by decide) _ rfl _ rfl)) (same_t _ _ (zl (paE sf J df m) m) _ _ X (own_ints (hS.2.rows 2 (by omega)) (pc_fits (by omega))) (Fa67.on hS.1) (fun _ _ => rfl) (by have h1_ := zl_le (paE sf J df m) m; have h2_ := zl_le (drE sf J cf n vf k) n; omega)) fun e w' hh => ⟨_, hh.1, s, ⟨_, rfl, rfl⟩, ⟨(hS.1).trans ((hh.2).mono (hS.1).size), (hS.2.on hh.2)⟩, fun _ _ => rfl⟩
      | 8, _ => exact stepV rfl (wantedOf rfl (yieldedAt rfl rfl (show a.eval (.tmp 131) = .bool false from (hv 4 (by decide) _ rfl _ rfl)))) (execNot8 rfl (hv 7 (by decide) _ rfl _ rfl)) ⟨s, ⟨_, rfl, rfl⟩, hS, fun _ _ => rfl⟩
      | 9, _ => exact stepV rfl rfl (execPickF rfl (hv 4 (by decide) _ rfl _ rfl) (hv 8 (by decide) _ rfl _ rfl)) ⟨s, ⟨_, rfl, rfl⟩, hS, fun _ _ => rfl⟩
      | 10, _ => exact stepV rfl rfl (execMvB rfl (hv 9 (by decide) _ rfl _ rfl)) ⟨s, ⟨_, rfl, rfl⟩, hS, fun _ _ => rfl⟩
      | 11, _ => exact stepV rfl (wantedOf rfl (yieldedAt rfl rfl (show a.eval (.tmp 137) = .bool false from (hv 10 (by decide) _ rfl _ rfl)))) (execMvB rfl ((hf 19 (by decide)).trans t19)) ⟨s, ⟨_, rfl, rfl⟩, hS, fun _ _ => rfl⟩
      | 12, _ => exact stepV rfl (wantedOf rfl (yieldedAt rfl rfl (show a.eval (.tmp 137) = .bool false from (hv 10 (by decide) _ rfl _ rfl)))) (execMvB rfl ((hf 14 (by decide)).trans t14)) ⟨s, ⟨_, rfl, rfl⟩, hS, fun _ _ => rfl⟩
      | 13, _ => exact stepC rfl (wantedOf rfl (yieldedAt rfl rfl (show a.eval (.tmp 137) = .bool false from (hv 10 (by decide) _ rfl _ rfl)))) (execCall2 Try.func14 (by kernel_rfl) (by kernel_rfl) rfl (hv 11 (by decide) _ rfl _ rfl) (hv 12 (by decide) _ rfl _ rfl)) (same_t _ _ (zl (paE sf J df m) m) _ _ X (own_ints (hS.2.rows 1 (by omega)) (po_fits hf1)) (Fo67.on hS.1) (fun _ _ => rfl) (by have h1_ := zl_le (paE sf J df m) m; have h2_ := zl_le (drE sf J cf n vf k) n; omega)) fun e w' hh => ⟨_, hh.1, s, ⟨_, rfl, rfl⟩, ⟨(hS.1).trans ((hh.2).mono (hS.1).size), (hS.2.on hh.2)⟩, fun _ _ => rfl⟩
      | 14, _ => exact stepV rfl (wantedOf rfl (yieldedAt rfl rfl (show a.eval (.tmp 137) = .bool false from (hv 10 (by decide) _ rfl _ rfl)))) (execNot8 rfl (hv 13 (by decide) _ rfl _ rfl)) ⟨s, ⟨_, rfl, rfl⟩, hS, fun _ _ => rfl⟩
      | 15, _ => exact stepV rfl rfl (execPickF rfl (hv 10 (by decide) _ rfl _ rfl) (hv 14 (by decide) _ rfl _ rfl)) ⟨s, ⟨_, rfl, rfl⟩, hS, fun _ _ => rfl⟩
      | 16, _ => exact stepV rfl rfl (execMvB rfl (hv 15 (by decide) _ rfl _ rfl)) ⟨s, ⟨_, rfl, rfl⟩, hS, fun _ _ => rfl⟩
      | 17, _ => exact stepV rfl (wantedOf rfl (yieldedAt rfl rfl (show a.eval (.tmp 143) = .bool false from (hv 16 (by decide) _ rfl _ rfl)))) (execMvB rfl ((hf 22 (by decide)).trans t22)) ⟨s, ⟨_, rfl, rfl⟩, hS, fun _ _ => rfl⟩
      | 18, _ => exact stepV rfl (wantedOf rfl (yieldedAt rfl rfl (show a.eval (.tmp 143) = .bool false from (hv 16 (by decide) _ rfl _ rfl)))) (execMvB rfl ((hf 14 (by decide)).trans t14)) ⟨s, ⟨_, rfl, rfl⟩, hS, fun _ _ => rfl⟩
      | 19, _ => exact stepC rfl (wantedOf rfl (yieldedAt rfl rfl (show a.eval (.tmp 143) = .bool false from (hv 16 (by decide) _ rfl _ rfl)))) (execCall2 Try.func14 (by kernel_rfl) (by kernel_rfl) rfl (hv 17 (by decide) _ rfl _ rfl) (hv 18 (by decide) _ rfl _ rfl)) (same_t _ _ (zl (paE sf J df m) m) _ _ X (own_ints (hS.2.rows 3 (by omega)) (po_fits hf1)) (Fo67.on hS.1) (fun _ _ => rfl) (by have h1_ := zl_le (paE sf J df m) m; have h2_ := zl_le (drE sf J cf n vf k) n; omega)) fun e w' hh => ⟨_, hh.1, s, ⟨_, rfl, rfl⟩, ⟨(hS.1).trans ((hh.2).mono (hS.1).size), (hS.2.on hh.2)⟩, fun _ _ => rfl⟩
      | 20, _ => exact stepV rfl (wantedOf rfl (yieldedAt rfl rfl (show a.eval (.tmp 143) = .bool false from (hv 16 (by decide) _ rfl _ rfl)))) (execNot8 rfl (hv 19 (by decide) _ rfl _ rfl)) ⟨s, ⟨_, rfl, rfl⟩, hS, fun _ _ => rfl⟩
      | 21, _ => exact stepV rfl rfl (execPickF rfl (hv 16 (by decide) _ rfl _ rfl) (hv 20 (by decide) _ rfl _ rfl)) ⟨s, ⟨_, rfl, rfl⟩, hS, fun _ _ => rfl⟩
      | 22, _ => exact stepV rfl rfl (execMvB rfl (hv 21 (by decide) _ rfl _ rfl)) ⟨s, ⟨_, rfl, rfl⟩, hS, fun _ _ => rfl⟩
      | 23, _ => exact stepV rfl (wantedOf rfl (yieldedAt rfl rfl (show a.eval (.tmp 149) = .bool false from (hv 22 (by decide) _ rfl _ rfl)))) (execMvB rfl ((hf 24 (by decide)).trans t24)) ⟨s, ⟨_, rfl, rfl⟩, hS, fun _ _ => rfl⟩
      | 24, _ => exact stepV rfl (wantedOf rfl (yieldedAt rfl rfl (show a.eval (.tmp 149) = .bool false from (hv 22 (by decide) _ rfl _ rfl)))) (execMvB rfl ((hf 16 (by decide)).trans t16)) ⟨s, ⟨_, rfl, rfl⟩, hS, fun _ _ => rfl⟩
      | 25, _ => exact stepC rfl (wantedOf rfl (yieldedAt rfl rfl (show a.eval (.tmp 149) = .bool false from (hv 22 (by decide) _ rfl _ rfl)))) (execCall2 Try.func14 (by kernel_rfl) (by kernel_rfl) rfl (hv 23 (by decide) _ rfl _ rfl) (hv 24 (by decide) _ rfl _ rfl)) (same_t _ _ (zl (drE sf J cf n vf k) n) _ _ X (own_ints (hS.2.rows 4 (by omega)) (dw_fits (by omega))) (Fd78.on hS.1) (fun _ _ => rfl) (by have h1_ := zl_le (paE sf J df m) m; have h2_ := zl_le (drE sf J cf n vf k) n; omega)) fun e w' hh => ⟨_, hh.1, s, ⟨_, rfl, rfl⟩, ⟨(hS.1).trans ((hh.2).mono (hS.1).size), (hS.2.on hh.2)⟩, fun _ _ => rfl⟩
      | 26, _ => exact stepV rfl (wantedOf rfl (yieldedAt rfl rfl (show a.eval (.tmp 149) = .bool false from (hv 22 (by decide) _ rfl _ rfl)))) (execNot8 rfl (hv 25 (by decide) _ rfl _ rfl)) ⟨s, ⟨_, rfl, rfl⟩, hS, fun _ _ => rfl⟩
      | 27, _ => exact stepV rfl rfl (execPickF rfl (hv 22 (by decide) _ rfl _ rfl) (hv 26 (by decide) _ rfl _ rfl)) ⟨s, ⟨_, rfl, rfl⟩, hS, fun _ _ => rfl⟩
      | 28, _ => exact stepV rfl rfl (execMvB rfl (hv 27 (by decide) _ rfl _ rfl)) ⟨s, ⟨_, rfl, rfl⟩, hS, fun _ _ => rfl⟩
      | 29, _ => exact stepV rfl (wantedOf rfl (yieldedAt rfl rfl (show a.eval (.tmp 155) = .bool false from (hv 28 (by decide) _ rfl _ rfl)))) (execMvB rfl ((hf 26 (by decide)).trans t26)) ⟨s, ⟨_, rfl, rfl⟩, hS, fun _ _ => rfl⟩
      | 30, _ => exact stepV rfl (wantedOf rfl (yieldedAt rfl rfl (show a.eval (.tmp 155) = .bool false from (hv 28 (by decide) _ rfl _ rfl)))) (execMvB rfl ((hf 16 (by decide)).trans t16)) ⟨s, ⟨_, rfl, rfl⟩, hS, fun _ _ => rfl⟩
      | 31, _ => exact stepC rfl (wantedOf rfl (yieldedAt rfl rfl (show a.eval (.tmp 155) = .bool false from (hv 28 (by decide) _ rfl _ rfl)))) (execCall2 Try.func14 (by kernel_rfl) (by kernel_rfl) rfl (hv 29 (by decide) _ rfl _ rfl) (hv 30 (by decide) _ rfl _ rfl)) (same_t _ _ (zl (drE sf J cf n vf k) n) _ _ X (own_ints (hS.2.rows 5 (by omega)) (dw_fits (by omega))) (Fd78.on hS.1) (fun _ _ => rfl) (by have h1_ := zl_le (paE sf J df m) m; have h2_ := zl_le (drE sf J cf n vf k) n; omega)) fun e w' hh => ⟨_, hh.1, s, ⟨_, rfl, rfl⟩, ⟨(hS.1).trans ((hh.2).mono (hS.1).size), (hS.2.on hh.2)⟩, fun _ _ => rfl⟩
      | 32, _ => exact stepV rfl (wantedOf rfl (yieldedAt rfl rfl (show a.eval (.tmp 155) = .bool false from (hv 28 (by decide) _ rfl _ rfl)))) (execNot8 rfl (hv 31 (by decide) _ rfl _ rfl)) ⟨s, ⟨_, rfl, rfl⟩, hS, fun _ _ => rfl⟩
      | 33, _ => exact stepV rfl rfl (execPickF rfl (hv 28 (by decide) _ rfl _ rfl) (hv 32 (by decide) _ rfl _ rfl)) ⟨s, ⟨_, rfl, rfl⟩, hS, fun _ _ => rfl⟩
      | k_ + 34, h_ => exact absurd h_ (by simp)
    rintro _ a X18 h1 h2 h3 h4 hS
    clear BB
    clear FN6
    replace hS : Below X11.heap.size X11 X18 ∧ (FmI X11.heap.size 6 (updX (updX (updX (updX (updX (updX (fun _ => undef) 0 a84) 1 o84) 2 a91) 3 o91) 4 d99) 5 d106) (nn6 (paE sf J df m) m (drE sf J cf n vf k) n) (ff6 (pcF sf J df) (poF sf J df m) (dwF sf cf vf)) X18) := hS
    obtain ⟨BB, FN6⟩ := hS
    replace t32 := (h3 32 (by decide)).trans t32
    replace t33 := (h3 33 (by decide)).trans t33
    replace t34 := (h3 34 (by decide)).trans t34
    replace t4 := (h3 4 (by decide)).trans t4
    replace t5 := (h3 5 (by decide)).trans t5
    replace t6 := (h3 6 (by decide)).trans t6
    replace t7 := (h3 7 (by decide)).trans t7
    replace t8 := (h3 8 (by decide)).trans t8
    replace t9 := (h3 9 (by decide)).trans t9
    replace t10 := (h3 10 (by decide)).trans t10
    replace t11 := (h3 11 (by decide)).trans t11
    replace t12 := (h3 12 (by decide)).trans t12
    replace t18 := (h3 18 (by decide)).trans t18
    replace t19 := (h3 19 (by decide)).trans t19
    replace t21 := (h3 21 (by decide)).trans t21
    replace t22 := (h3 22 (by decide)).trans t22
    replace t24 := (h3 24 (by decide)).trans t24
    replace t26 := (h3 26 (by decide)).trans t26
    have t160 : a.eval (.tmp 160) = .bool false := h4 33 _ rfl _ rfl
    replace A := (⟨h1, h2.trans A.2⟩ : a.tmps.size = 271 ∧ a.defers = [])
    clear h1 h2 h3 h4
    clear t13 t14 t16
    refine wp_cond_false t160 ?_
    refine wp_skip ?_
    clear t160
    clear Fa67
    clear Fo67
    clear Fd78
    refine wp_seq ?_
    refine wp_seq ?_
    refine wp_region_sq (σ := Nat) 271 [(0, 161), (1, 162), (2, 163), (3, 164), (4, 165), (5, 166), (6, 167), (7, 168), (8, 169), (9, 170), (10, 171), (11, 172), (12, 173), (13, 174), (14, 175), (15, 176), (16, 177), (17, 178), (18, 179), (19, 180), (20, 181), (21, 182), (22, 183), (23, 184), (24, 185), (25, 186), (26, 187), (27, 188), (28, 189), (29, 190), (30, 191), (31, 192), (32, 193), (33, 194), (34, 195), (35, 196), (36, 197)] (fun j_ s X => match j_ with | 0 => Below X11.heap.size X11 X ∧ (FmI X11.heap.size 6 (updX (updX (updX (updX (updX (updX (fun _ => undef) 0 a84) 1 o84) 2 a91) 3 o91) 4 d99) 5 d106) (nn6 (paE sf J df m) m (drE sf J cf n vf k) n) (ff6 (pcF sf J df) (poF sf J df m) (dwF sf cf vf)) X) | 1 => Below X11.heap.size X11 X ∧ (FmI X11.heap.size 6 (updX (updX (updX (updX (updX (updX (fun _ => undef) 0 a84) 1 o84) 2 a91) 3 o91) 4 d99) 5 d106) (nn6 (paE sf J df m) m (drE sf J cf n vf k) n) (ff6 (pcF sf J df) (poF sf J df m) (dwF sf cf vf)) X) | 2 => Below X11.heap.size X11 X ∧ (FmI X11.heap.size 6 (updX (updX (updX (updX (updX (updX (fun _ => undef) 0 a84) 1 o84) 2 a91) 3 o91) 4 d99) 5 d106) (nn6 (paE sf J df m) m (drE sf J cf n vf k) n) (ff6 (pcF sf J df) (poF sf J df m) (dwF sf cf vf)) X) | 3 => Below X11.heap.size X11 X ∧ (FmI X11.heap.size 6 (updX (updX (updX (updX (updX (updX (fun _ => undef) 0 a84) 1 o84) 2 a91) 3 o91) 4 d99) 5 d106) (nn6 (paE sf J df m) m (drE sf J cf n vf k) n) (ff6 (pcF sf J df) (poF sf J df m) (dwF sf cf vf)) X) | 4 => Below X11.heap.size X11 X ∧ (FmI X11.heap.size 6 (updX (updX (updX (updX (updX (updX (fun _ => undef) 0 a84) 1 o84) 2 a91) 3 o91) 4 d99) 5 d106) (nn6 (paE sf J df m) m (drE sf J cf n vf k) n) (ff6 (pcF sf J df) (poF sf J df m) (dwF sf cf vf)) X) | 5 => Below X11.heap.size X11 X ∧ (FmI X11.heap.size 6 (updX (updX (updX (updX (updX (updX (fun _ => undef) 0 a84) 1 o84) 2 a91) 3 o91) 4 d99) 5 d106) (nn6 (paE sf J df m) m (drE sf J cf n vf k) n) (ff6 (pcF sf J df) (poF sf J df m) (dwF sf cf vf)) X) | 6 => Below X11.heap.size X11 X ∧ (FmI X11.heap.size 6 (updX (updX (updX (updX (updX (updX (fun _ => undef) 0 a84) 1 o84) 2 a91) 3 o91) 4 d99) 5 d106) (nn6 (paE sf J df m) m (drE sf J cf n vf k) n) (ff6 (pcF sf J df) (poF sf J df m) (dwF sf cf vf)) X) | 7 => Below X11.heap.size X11 X ∧ (FmI X11.heap.size 6 (updX (updX (updX (updX (updX (updX (fun _ => undef) 0 a84) 1 o84) 2 a91) 3 o91) 4 d99) 5 d106) (nn6 (paE sf J df m) m (drE sf J cf n vf k) n) (ff6 (pcF sf J df) (poF sf J df m) (dwF sf cf vf)) X) ∧ (X.heap[s]? = some (.cells #[a84, o84, a91, o91, d99, d106] 23)) | 8 => Below X11.heap.size X11 X | 9 => Below X11.heap.size X11 X | 10 => Below X11.heap.size X11 X | 11 => Below X11.heap.size X11 X | 12 => Below X11.heap.size X11 X | 13 => Below X11.heap.size X11 X | 14 => Below X11.heap.size X11 X | 15 => Below X11.heap.size X11 X | 16 => Below X11.heap.size X11 X | 17 => Below X11.heap.size X11 X | 18 => Below X11.heap.size X11 X | 19 => Below X11.heap.size X11 X | 20 => Below X11.heap.size X11 X | 21 => Below X11.heap.size X11 X | 22 => Below X11.heap.size X11 X | 23 => Below X11.heap.size X11 X | 24 => Below X11.heap.size X11 X | 25 => Below X11.heap.size X11 X | 26 => Below X11.heap.size X11 X | 27 => Below X11.heap.size X11 X | 28 => Below X11.heap.size X11 X | 29 => Below X11.heap.size X11 X | 30 => Below X11.heap.size X11 X | 31 => Below X11.heap.size X11 X | 32 => Below X11.heap.size X11 X | 33 => Below X11.heap.size X11 X | 34 => Below X11.heap.size X11 X | 35 => Below X11.heap.size X11 X | 36 => Below X11.heap.size X11 X | _ => Below X11.heap.size X11 X) (fun s => fun i_ => match i_ with | 0 => a84 | 1 => o84 | 2 => a91 | 3 => o91 | 4 => d99 | 5 => d106 | 6 => .slice (some ⟨s, 0, none⟩) 6 6 | 7 => .bool true | 8 => .bool false | 9 => .bool false | 10 => .slice (some ⟨g41, 0, none⟩) (J + 2) c41 | 11 => .pointer (some ⟨gq, 0, none⟩) | 12 => v0 | 13 => .bool true | 14 => .bool false | 15 => .bool false | 16 => .bool false | 17 => .slice (some ⟨g47, 0, none⟩) (m + 2) c47 | 18 => .pointer (some ⟨gq, 1, none⟩) | 19 => v1 | 20 => .bool true | 21 => .bool false | 22 => .bool false | 23 => .bool false | 24 => .slice (some ⟨g53, 0, none⟩) (n + 2) c53 | 25 => .pointer (some ⟨gq, 2, none⟩) | 26 => v2 | 27 => .bool true | 28 => .bool false | 29 => .bool false | 30 => .bool false | 31 => .slice (some ⟨g59, 0, none⟩) (k + 2) c59 | 32 => .pointer (some ⟨gq, 3, none⟩) | 33 => v3 | 34 => .bool true | 35 => .bool false | 36 => .bool false | _ => undef) 0 A.1 (by kernel_rfl) (by decide) (by decide) ⟨BB, FN6⟩ ?_ ?_
    · intro i_ hi_ s a X hf hv hn hS
      match i_, hi_ with
      | 0, _ => exact stepV rfl rfl (execMvB rfl ((hf 18 (by decide)).trans t18)) ⟨s, ⟨_, rfl, rfl⟩, hS, fun _ _ => rfl⟩
      | 1, _ => exact stepV rfl rfl (execMvB rfl ((hf 19 (by decide)).trans t19)) ⟨s, ⟨_, rfl, rfl⟩, hS, fun _ _ => rfl⟩
      | 2, _ => exact stepV rfl rfl (execMvB rfl ((hf 21 (by decide)).trans t21)) ⟨s, ⟨_, rfl, rfl⟩, hS, fun _ _ => rfl⟩
      | 3, _ => exact stepV rfl rfl (execMvB rfl ((hf 22 (by decide)).trans t22)) ⟨s, ⟨_, rfl, rfl⟩, hS, fun _ _ => rfl⟩
      | 4, _ => exact stepV rfl rfl (execMvB rfl ((hf 24 (by decide)).trans t24)) ⟨s, ⟨_, rfl, rfl⟩, hS, fun _ _ => rfl⟩
      | 5, _ => exact stepV rfl rfl (execMvB rfl ((hf 26 (by decide)).trans t26)) ⟨s, ⟨_, rfl, rfl⟩, hS, fun _ _ => rfl⟩
      | 6, _ =>
        refine stepV rfl rfl (execBsLI6 rfl (hv 0 (by decide) _ rfl _ rfl) (hv 1 (by decide) _ rfl _ rfl) (hv 2 (by decide) _ rfl _ rfl) (hv 3 (by decide) _ rfl _ rfl) (hv 4 (by decide) _ rfl _ rfl) (hv 5 (by decide) _ rfl _ rfl) (shp3 (hS.2.rows 0 (by omega))) (shp3 (hS.2.rows 1 (by omega))) (shp3 (hS.2.rows 2 (by omega))) (shp3 (hS.2.rows 3 (by omega))) (shp3 (hS.2.rows 4 (by omega))) (shp3 (hS.2.rows 5 (by omega)))) ⟨X.heap.size, ⟨_, rfl, rfl⟩, ⟨(hS.1).trans (((belNew X _)).mono (hS.1).size), (hS.2.on (belNew X _)), heapNew X _⟩, fun i hi => ?_⟩
        match i, hi with
        | 0, _ => rfl
        | 1, _ => rfl
        | 2, _ => rfl
        | 3, _ => rfl
        | 4, _ => rfl
        | 5, _ => rfl
        | n_ + 6, h_ => omega
      | 7, _ =>
        refine stepC rfl rfl (execCall1 Try.func15 (by kernel_rfl) (by kernel_rfl) rfl (hv 6 (by decide) _ rfl _ rfl)) (apart_any X11 X 6 _ _ (updX (updX (updX (updX (updX (updX (fun _ => undef) 0 a84) 1 o84) 2 a91) 3 o91) 4 d99) 5 d106) (nn6 (paE sf J df m) m (drE sf J cf n vf k) n) #[a84, o84, a91, o91, d99, d106] (by omega) (fun t ht => by match t, ht with | 0, _ => rfl | 1, _ => rfl | 2, _ => rfl | 3, _ => rfl | 4, _ => rfl | 5, _ => rfl | t + 6, h => omega) (fun t _ => Nat.le_trans (nn6_le _ _ _ _ t) (by omega)) (ff6 (pcF sf J df) (poF sf J df m) (dwF sf cf vf)) hS.1 hS.2.1 hS.2.2) fun e w' hh => ?_
        obtain ⟨he, hsv, hb⟩ := hh
        refine ⟨_, he, s, ⟨_, rfl, rfl⟩, hb, fun i hi => ?_⟩
        match i, hi with
        | 0, _ => rfl
        | 1, _ => rfl
        | 2, _ => rfl
        | 3, _ => rfl
        | 4, _ => rfl
        | 5, _ => rfl
        | 6, _ => rfl
        | n_ + 7, h_ => omega
      | 8, _ => exact stepV rfl rfl (execNot8 rfl (hv 7 (by decide) _ rfl _ rfl)) ⟨s, ⟨_, rfl, rfl⟩, hS, fun _ _ => rfl⟩
      | 9, _ => exact stepV rfl rfl (execMvB rfl (hv 8 (by decide) _ rfl _ rfl)) ⟨s, ⟨_, rfl, rfl⟩, hS, fun _ _ => rfl⟩
      | 10, _ => exact stepV rfl (wantedOf rfl (yieldedAt rfl rfl (show a.eval (.tmp 170) = .bool false from (hv 9 (by decide) _ rfl _ rfl)))) (execMvB rfl ((hf 6 (by decide)).trans t6)) ⟨s, ⟨_, rfl, rfl⟩, hS, fun _ _ => rfl⟩
      | 11, _ => exact stepV rfl (wantedOf rfl (yieldedAt rfl rfl (show a.eval (.tmp 170) = .bool false from (hv 9 (by decide) _ rfl _ rfl)))) (execFldAk0 rfl ((hf 4 (by decide)).trans t4)) ⟨s, ⟨_, rfl, rfl⟩, hS, fun _ _ => rfl⟩
      | 12, _ => exact stepV rfl (wantedOf rfl (yieldedAt rfl rfl (show a.eval (.tmp 170) = .bool false from (hv 9 (by decide) _ rfl _ rfl)))) (execLdLI (v := v0) rfl (hv 11 (by decide) _ rfl _ rfl) (ak_at0 (on9 FQ hS))) ⟨s, ⟨_, rfl, rfl⟩, hS, fun _ _ => rfl⟩
      | 13, _ => exact stepC rfl (wantedOf rfl (yieldedAt rfl rfl (show a.eval (.tmp 170) = .bool false from (hv 9 (by decide) _ rfl _ rfl)))) (execCall2 Try.func21 (by kernel_rfl) (by kernel_rfl) rfl (hv 10 (by decide) _ rfl _ rfl) (hv 12 (by decide) _ rfl _ rfl)) (whole_lent ((FM4.on hS).rows 0 (by omega)) (FI0.on hS) (by omega)) fun e w' hh => ⟨_, hh.1, s, ⟨_, rfl, rfl⟩, (hS).trans ((hh.2).mono (hS).size), fun _ _ => rfl⟩
      | 14, _ => exact stepV rfl (wantedOf rfl (yieldedAt rfl rfl (show a.eval (.tmp 170) = .bool false from (hv 9 (by decide) _ rfl _ rfl)))) (execNot8 rfl (hv 13 (by decide) _ rfl _ rfl)) ⟨s, ⟨_, rfl, rfl⟩, hS, fun _ _ => rfl⟩
      | 15, _ => exact stepV rfl rfl (execPickF rfl (hv 9 (by decide) _ rfl _ rfl) (hv 14 (by decide) _ rfl _ rfl)) ⟨s, ⟨_, rfl, rfl⟩, hS, fun _ _ => rfl⟩
      | 16, _ => exact stepV rfl rfl (execMvB rfl (hv 15 (by decide) _ rfl _ rfl)) ⟨s, ⟨_, rfl, rfl⟩, hS, fun _ _ => rfl⟩
      | 17, _ => exact stepV rfl (wantedOf rfl (yieldedAt rfl rfl (show a.eval (.tmp 177) = .bool false from (hv 16 (by decide) _ rfl _ rfl)))) (execMvB rfl ((hf 8 (by decide)).trans t8)) ⟨s, ⟨_, rfl, rfl⟩, hS, fun _ _ => rfl⟩
      | 18, _ => exact stepV rfl (wantedOf rfl (yieldedAt rfl rfl (show a.eval (.tmp 177) = .bool false from (hv 16 (by decide) _ rfl _ rfl)))) (execFldAk1 rfl ((hf 4 (by decide)).trans t4)) ⟨s, ⟨_, rfl, rfl⟩, hS, fun _ _ => rfl⟩
      | 19, _ => exact stepV rfl (wantedOf rfl (yieldedAt rfl rfl (show a.eval (.tmp 177) = .bool false from (hv 16 (by decide) _ rfl _ rfl)))) (execLdLI (v := v1) rfl (hv 18 (by decide) _ rfl _ rfl) (ak_at1 (on9 FQ hS))) ⟨s, ⟨_, rfl, rfl⟩, hS, fun _ _ => rfl⟩
      | 20, _ => exact stepC rfl (wantedOf rfl (yieldedAt rfl rfl (show a.eval (.tmp 177) = .bool false from (hv 16 (by decide) _ rfl _ rfl)))) (execCall2 Try.func21 (by kernel_rfl) (by kernel_rfl) rfl (hv 17 (by decide) _ rfl _ rfl) (hv 19 (by decide) _ rfl _ rfl)) (whole_lent ((FM4.on hS).rows 1 (by omega)) (FI1.on hS) (by omega)) fun e w' hh => ⟨_, hh.1, s, ⟨_, rfl, rfl⟩, (hS).trans ((hh.2).mono (hS).size), fun _ _ => rfl⟩
      | 21, _ => exact stepV rfl (wantedOf rfl (yieldedAt rfl rfl (show a.eval (.tmp 177) = .bool false from (hv 16 (by decide) _ rfl _ rfl)))) (execNot8 rfl (hv 20 (by decide) _ rfl _ rfl)) ⟨s, ⟨_, rfl, rfl⟩, hS, fun _ _ => rfl⟩
      | 22, _ => exact stepV rfl rfl (execPickF rfl (hv 16 (by decide) _ rfl _ rfl) (hv 21 (by decide) _ rfl _ rfl)) ⟨s, ⟨_, rfl, rfl⟩, hS, fun _ _ => rfl⟩
      | 23, _ => exact stepV rfl rfl (execMvB rfl (hv 22 (by decide) _ rfl _ rfl)) ⟨s, ⟨_, rfl, rfl⟩, hS, fun _ _ => rfl⟩
      | 24, _ => exact stepV rfl (wantedOf rfl (yieldedAt rfl rfl (show a.eval (.tmp 184) = .bool false from (hv 23 (by decide) _ rfl _ rfl)))) (execMvB rfl ((hf 10 (by decide)).trans t10)) ⟨s, ⟨_, rfl, rfl⟩, hS, fun _ _ => rfl⟩
      | 25, _ => exact stepV rfl (wantedOf rfl (yieldedAt rfl rfl (show a.eval (.tmp 184) = .bool false from (hv 23 (by decide) _ rfl _ rfl)))) (execFldAk2 rfl ((hf 4 (by decide)).trans t4)) ⟨s, ⟨_, rfl, rfl⟩, hS, fun _ _ => rfl⟩
      | 26, _ => exact stepV rfl (wantedOf rfl (yieldedAt rfl rfl (show a.eval (.tmp 184) = .bool false from (hv 23 (by decide) _ rfl _ rfl)))) (execLdLI (v := v2) rfl (hv 25 (by decide) _ rfl _ rfl) (ak_at2 (on9 FQ hS))) ⟨s, ⟨_, rfl, rfl⟩, hS, fun _ _ => rfl⟩
      | 27, _ => exact stepC rfl (wantedOf rfl (yieldedAt rfl rfl (show a.eval (.tmp 184) = .bool false from (hv 23 (by decide) _ rfl _ rfl)))) (execCall2 Try.func21 (by kernel_rfl) (by kernel_rfl) rfl (hv 24 (by decide) _ rfl _ rfl) (hv 26 (by decide) _ rfl _ rfl)) (whole_lent ((FM4.on hS).rows 2 (by omega)) (FI2.on hS) (by omega)) fun e w' hh => ⟨_, hh.1, s, ⟨_, rfl, rfl⟩, (hS).trans ((hh.2).mono (hS).size), fun _ _ => rfl⟩
      | 28, _ => exact stepV rfl (wantedOf rfl (yieldedAt rfl rfl (show a.eval (.tmp 184) = .bool false from (hv 23 (by decide) _ rfl _ rfl)))) (execNot8 rfl (hv 27 (by decide) _ rfl _ rfl)) ⟨s, ⟨_, rfl, rfl⟩, hS, fun _ _ => rfl⟩
      | 29, _ => exact stepV rfl rfl (execPickF rfl (hv 23 (by decide) _ rfl _ rfl) (hv 28 (by decide) _ rfl _ rfl)) ⟨s, ⟨_, rfl, rfl⟩, hS, fun _ _ => rfl⟩
      | 30, _ => exact stepV rfl rfl (execMvB rfl (hv 29 (by decide) _ rfl _ rfl)) ⟨s, ⟨_, rfl, rfl⟩, hS, fun _ _ => rfl⟩
      | 31, _ => exact stepV rfl (wantedOf rfl (yieldedAt rfl rfl (show a.eval (.tmp 191) = .bool false from (hv 30 (by decide) _ rfl _ rfl)))) (execMvB rfl ((hf 12 (by decide)).trans t12)) ⟨s, ⟨_, rfl, rfl⟩, hS, fun _ _ => rfl⟩
      | 32, _ => exact stepV rfl (wantedOf rfl (yieldedAt rfl rfl (show a.eval (.tmp 191) = .bool false from (hv 30 (by decide) _ rfl _ rfl)))) (execFldAk3 rfl ((hf 4 (by decide)).trans t4)) ⟨s, ⟨_, rfl, rfl⟩, hS, fun _ _ => rfl⟩
      | 33, _ => exact stepV rfl (wantedOf rfl (yieldedAt rfl rfl (show a.eval (.tmp 191) = .bool false from (hv 30 (by decide) _ rfl _ rfl)))) (execLdLI (v := v3) rfl (hv 32 (by decide) _ rfl _ rfl) (ak_at3 (on9 FQ hS))) ⟨s, ⟨_, rfl, rfl⟩, hS, fun _ _ => rfl⟩
      | 34, _ => exact stepC rfl (wantedOf rfl (yieldedAt rfl rfl (show a.eval (.tmp 191) = .bool false from (hv 30 (by decide) _ rfl _ rfl)))) (execCall2 Try.func21 (by kernel_rfl) (by kernel_rfl) rfl (hv 31 (by decide) _ rfl _ rfl) (hv 33 (by decide) _ rfl _ rfl)) (whole_lent ((FM4.on hS).rows 3 (by omega)) (FI3.on hS) (by omega)) fun e w' hh => ⟨_, hh.1, s, ⟨_, rfl, rfl⟩, (hS).trans ((hh.2).mono (hS).size), fun _ _ => rfl⟩
      | 35, _ => exact stepV rfl (wantedOf rfl (yieldedAt rfl rfl (show a.eval (.tmp 191) = .bool false from (hv 30 (by decide) _ rfl _ rfl)))) (execNot8 rfl (hv 34 (by decide) _ rfl _ rfl)) ⟨s, ⟨_, rfl, rfl⟩, hS, fun _ _ => rfl⟩
      | 36, _ => exact stepV rfl rfl (execPickF rfl (hv 30 (by decide) _ rfl _ rfl) (hv 35 (by decide) _ rfl _ rfl)) ⟨s, ⟨_, rfl, rfl⟩, hS, fun _ _ => rfl⟩
      | k_ + 37, h_ => exact absurd h_ (by simp)
    rintro gl a X20 h1 h2 h3 h4 hS
    clear BB
    clear FN6
    replace hS : Below X11.heap.size X11 X20 := hS
    have BB := hS
    clear hS
    replace t32 := (h3 32 (by decide)).trans t32
    replace t33 := (h3 33 (by decide)).trans t33
    replace t34 := (h3 34 (by decide)).trans t34
    replace t5 := (h3 5 (by decide)).trans t5
    replace t7 := (h3 7 (by decide)).trans t7
    replace t9 := (h3 9 (by decide)).trans t9
    replace t11 := (h3 11 (by decide)).trans t11
    have t197 : a.eval (.tmp 197) = .bool false := h4 36 _ rfl _ rfl
    replace A := (⟨h1, h2.trans A.2⟩ : a.tmps.size = 271 ∧ a.defers = [])
    clear h1 h2 h3 h4
    clear t4 t6 t8 t10 t12 t18 t19 t21 t22 t24 t26
    refine wp_cond_false t197 ?_
    refine wp_skip ?_
    clear t197
    replace FI0 := (FI0.on BB)
    replace FI1 := (FI1.on BB)
    replace FI2 := (FI2.on BB)
    replace FI3 := (FI3.on BB)
    replace FQ := (on9 FQ BB)
    replace FM4 := (FM4.on BB)
    replace BW := BW.trans (BB.mono BW.size)
    clear BB
    clear FQ FI0 FI1 FI2 FI3
    have BB := BW
    clear BW
    refine wp_seq ?_
    refine wp_seq ?_
    refine wp_region_sq (σ := Unit) 271 [(0, 198), (1, 199), (2, 200)] (fun j_ s X => match j_ with | 0 => Below V.heap.size V X ∧ (FmI X5.heap.size 4 (updX (updX (updX (updX (fun _ => undef) 0 (.slice (some ⟨g41, 0, none⟩) (J + 2) c41)) 1 (.slice (some ⟨g47, 0, none⟩) (m + 2) c47)) 2 (.slice (some ⟨g53, 0, none⟩) (n + 2) c53)) 3 (.slice (some ⟨g59, 0, none⟩) (k + 2) c59)) (nnA J m n k) (ffA (CT sf J) (CT df m) (CT cf n) (CT vf k)) X) | 1 => Below V.heap.size V X ∧ (FmI X5.heap.size 4 (updX (updX (updX (updX (fun _ => undef) 0 (.slice (some ⟨g41, 0, none⟩) (J + 2) c41)) 1 (.slice (some ⟨g47, 0, none⟩) (m + 2) c47)) 2 (.slice (some ⟨g53, 0, none⟩) (n + 2) c53)) 3 (.slice (some ⟨g59, 0, none⟩) (k + 2) c59)) (nnA J m n k) (ffA (CT sf J) (CT df m) (CT cf n) (CT vf k)) X) | 2 => Below V.heap.size V X ∧ (FmI X5.heap.size 4 (updX (updX (updX (updX (fun _ => undef) 0 (.slice (some ⟨g41, 0, none⟩) (J + 2) c41)) 1 (.slice (some ⟨g47, 0, none⟩) (m + 2) c47)) 2 (.slice (some ⟨g53, 0, none⟩) (n + 2) c53)) 3 (.slice (some ⟨g59, 0, none⟩) (k + 2) c59)) (nnA J m n k) (ffA (CT sf J) (CT df m) (CT cf n) (CT vf k)) X) | _ => Below V.heap.size V X ∧ (FmI X5.heap.size 4 (updX (updX (updX (updX (fun _ => undef) 0 (.slice (some ⟨g41, 0, none⟩) (J + 2) c41)) 1 (.slice (some ⟨g47, 0, none⟩) (m + 2) c47)) 2 (.slice (some ⟨g53, 0, none⟩) (n + 2) c53)) 3 (.slice (some ⟨g59, 0, none⟩) (k + 2) c59)) (nnA J m n k) (ffA (CT sf J) (CT df m) (CT cf n) (CT vf k)) X)) (fun s => fun i_ => match i_ with | 0 => .slice (some ⟨g47, 0, none⟩) m c47 | 1 => .int .i64 ((m : Nat) : Int) | 2 => .int .i64 ((0 : Nat) : Int) | _ => undef) () A.1 (by kernel_rfl) (by decide) (by decide) ⟨BB, FM4⟩ ?_ ?_
    · intro i_ hi_ s a X hf hv hn hS
      match i_, hi_ with
      | 0, _ => exact stepV rfl rfl (execMvB rfl ((hf 7 (by decide)).trans t7)) ⟨s, ⟨_, rfl, rfl⟩, hS, fun _ _ => rfl⟩
      | 1, _ => exact stepV rfl rfl (execLenI (len := m) rfl (hv 0 (by decide) _ rfl _ rfl) ⟨_, _, rfl⟩) ⟨s, ⟨_, rfl, rfl⟩, hS, fun _ _ => rfl⟩
      | 2, _ => exact stepV rfl rfl (execMvB rfl rfl) ⟨s, ⟨_, rfl, rfl⟩, hS, fun _ _ => rfl⟩
      | k_ + 3, h_ => exact absurd h_ (by simp)
    rintro _ a X22 h1 h2 h3 h4 hS
    clear BB
    clear FM4
    replace hS : Below V.heap.size V X22 ∧ (FmI X5.heap.size 4 (updX (updX (updX (updX (fun _ => undef) 0 (.slice (some ⟨g41, 0, none⟩) (J + 2) c41)) 1 (.slice (some ⟨g47, 0, none⟩) (m + 2) c47)) 2 (.slice (some ⟨g53, 0, none⟩) (n + 2) c53)) 3 (.slice (some ⟨g59, 0, none⟩) (k + 2) c59)) (nnA J m n k) (ffA (CT sf J) (CT df m) (CT cf n) (CT vf k)) X22) := hS
    obtain ⟨BB, FM4⟩ := hS
    replace t32 := (h3 32 (by decide)).trans t32
    replace t33 := (h3 33 (by decide)).trans t33
    replace t34 := (h3 34 (by decide)).trans t34
    replace t5 := (h3 5 (by decide)).trans t5
    replace t7 := (h3 7 (by decide)).trans t7
    replace t9 := (h3 9 (by decide)).trans t9
    replace t11 := (h3 11 (by decide)).trans t11
    have t198 : a.eval (.tmp 198) = .slice (some ⟨g47, 0, none⟩) m c47 := h4 0 _ rfl _ rfl
    have t199 : a.eval (.tmp 199) = .int .i64 ((m : Nat) : Int) := h4 1 _ rfl _ rfl
    have t200 : a.eval (.tmp 200) = .int .i64 ((0 : Nat) : Int) := h4 2 _ rfl _ rfl
    replace A := (⟨h1, h2.trans A.2⟩ : a.tmps.size = 271 ∧ a.defers = [])
    clear h1 h2 h3 h4
    have FM5 : (FmI X5.heap.size 4 (updX (updX (updX (updX (fun _ => undef) 0 (.slice (some ⟨g41, 0, none⟩) (J + 2) c41)) 1 (.slice (some ⟨g47, 0, none⟩) (m + 2) c47)) 2 (.slice (some ⟨g53, 0, none⟩) (n + 2) c53)) 3 (.slice (some ⟨g59, 0, none⟩) (k + 2) c59)) (nnA J m n k) (ffA (CT sf J) (zr df m 0) (CT cf n) (CT vf k)) X22) := FmI.cgF FM4 (fun t ht j _ => by match t, ht with | 0, _ => rfl | 1, _ => rfl | 2, _ => rfl | 3, _ => rfl | t + 4, h => omega)
    clear FM4
    refine wp_block ?_
    refine wp_loop (fun a W => ∃ (j : Nat), j ≤ m ∧ (a.tmps.size = 271 ∧ a.defers = []) ∧ a.eval (.tmp 34) = .int .i64 ((i : Nat) : Int) ∧ a.eval (.tmp 32) = v ∧ a.eval (.tmp 33) = .int .i64 ((N : Nat) : Int) ∧ a.eval (.tmp 5) = .slice (some ⟨g41, 0, none⟩) J c41 ∧ a.eval (.tmp 7) = .slice (some ⟨g47, 0, none⟩) m c47 ∧ a.eval (.tmp 9) = .slice (some ⟨g53, 0, none⟩) n c53 ∧ a.eval (.tmp 11) = .slice (some ⟨g59, 0, none⟩) k c59 ∧ a.eval (.tmp 198) = .slice (some ⟨g47, 0, none⟩) m c47 ∧ a.eval (.tmp 199) = .int .i64 ((m : Nat) : Int) ∧ a.eval (.tmp 200) = .int .i64 ((j : Nat) : Int) ∧ Below V.heap.size V W ∧ (FmI X5.heap.size 4 (updX (updX (updX (updX (fun _ => undef) 0 (.slice (some ⟨g41, 0, none⟩) (J + 2) c41)) 1 (.slice (some ⟨g47, 0, none⟩) (m + 2) c47)) 2 (.slice (some ⟨g53, 0, none⟩) (n + 2) c53)) 3 (.slice (some ⟨g59, 0, none⟩) (k + 2) c59)) (nnA J m n k) (ffA (CT sf J) (zr df m j) (CT cf n) (CT vf k)) W)) (fun a _ => m - (intOf (a.eval (.tmp 200))).toNat) ⟨0, Nat.zero_le _, A, t34, t32, t33, t5, t7, t9, t11, t198, t199, t200, BB, FM5⟩ ?_
    clear A t34 t32 t33 t5 t7 t9 t11 t198 t199 t200 BB FM5 a
    rintro a XL23 ⟨j, hj, A, t34, t32, t33, t5, t7, t9, t11, t198, t199, t200, BB, FM5⟩
    have esj := t200
    refine wp_seq ?_
    refine wp_region_sq (σ := Unit) 271 [(0, 201)] (fun j_ s X => match j_ with | 0 => Below V.heap.size V X ∧ (FmI X5.heap.size 4 (updX (updX (updX (updX (fun _ => undef) 0 (.slice (some ⟨g41, 0, none⟩) (J + 2) c41)) 1 (.slice (some ⟨g47, 0, none⟩) (m + 2) c47)) 2 (.slice (some ⟨g53, 0, none⟩) (n + 2) c53)) 3 (.slice (some ⟨g59, 0, none⟩) (k + 2) c59)) (nnA J m n k) (ffA (CT sf J) (zr df m j) (CT cf n) (CT vf k)) X) | _ => Below V.heap.size V X ∧ (FmI X5.heap.size 4 (updX (updX (updX (updX (fun _ => undef) 0 (.slice (some ⟨g41, 0, none⟩) (J + 2) c41)) 1 (.slice (some ⟨g47, 0, none⟩) (m + 2) c47)) 2 (.slice (some ⟨g53, 0, none⟩) (n + 2) c53)) 3 (.slice (some ⟨g59, 0, none⟩) (k + 2) c59)) (nnA J m n k) (ffA (CT sf J) (zr df m j) (CT cf n) (CT vf k)) X)) (fun s => fun i_ => match i_ with | 0 => .bool (decide (j < m)) | _ => undef) () A.1 (by kernel_rfl) (by decide) (by decide) ⟨BB, FM5⟩ ?_ ?_
    · intro i_ hi_ s a X hf hv hn hS
      match i_, hi_ with
      | 0, _ => exact stepV rfl rfl (execLtW (p := j) (q := m) rfl ((hf 200 (by decide)).trans t200) ((hf 199 (by decide)).trans t199)) ⟨s, ⟨_, rfl, rfl⟩, hS, fun _ _ => rfl⟩
      | k_ + 1, h_ => exact absurd h_ (by simp)
    rintro _ a X23 h1 h2 h3 h4 hS
    clear BB
    clear FM5
    replace hS : Below V.heap.size V X23 ∧ (FmI X5.heap.size 4 (updX (updX (updX (updX (fun _ => undef) 0 (.slice (some ⟨g41, 0, none⟩) (J + 2) c41)) 1 (.slice (some ⟨g47, 0, none⟩) (m + 2) c47)) 2 (.slice (some ⟨g53, 0, none⟩) (n + 2) c53)) 3 (.slice (some ⟨g59, 0, none⟩) (k + 2) c59)) (nnA J m n k) (ffA (CT sf J) (zr df m j) (CT cf n) (CT vf k)) X23) := hS
    obtain ⟨BB, FM5⟩ := hS
    replace t34 := (h3 34 (by decide)).trans t34
    replace t32 := (h3 32 (by decide)).trans t32
    replace t33 := (h3 33 (by decide)).trans t33
    replace t5 := (h3 5 (by decide)).trans t5
    replace t7 := (h3 7 (by decide)).trans t7
    replace t9 := (h3 9 (by decide)).trans t9
    replace t11 := (h3 11 (by decide)).trans t11
    replace t198 := (h3 198 (by decide)).trans t198
    replace t199 := (h3 199 (by decide)).trans t199
    replace t200 := (h3 200 (by decide)).trans t200
    have t201 : a.eval (.tmp 201) = .bool (decide (j < m)) := h4 0 _ rfl _ rfl
    replace A := (⟨h1, h2.trans A.2⟩ : a.tmps.size = 271 ∧ a.defers = [])
    clear h1 h2 h3 h4
    refine wp_seq ?_
    by_cases ltj : j < m
    · rw [decide_eq_true ltj] at t201
      refine wp_cond_true t201 ?_
      refine wp_skip ?_
      clear t201
      refine wp_seq ?_
      refine wp_block ?_
      refine wp_seq ?_
      refine wp_region_sq (σ := Unit) 271 [(0, 202), (1, 28)] (fun j_ s X => match j_ with | 0 => Below V.heap.size V X ∧ (FmI X5.heap.size 4 (updX (updX (updX (updX (fun _ => undef) 0 (.slice (some ⟨g41, 0, none⟩) (J + 2) c41)) 1 (.slice (some ⟨g47, 0, none⟩) (m + 2) c47)) 2 (.slice (some ⟨g53, 0, none⟩) (n + 2) c53)) 3 (.slice (some ⟨g59, 0, none⟩) (k + 2) c59)) (nnA J m n k) (ffA (CT sf J) (zr df m j) (CT cf n) (CT vf k)) X) | 1 => Below V.heap.size V X ∧ (FmI X5.heap.size 4 (updX (updX (updX (updX (fun _ => undef) 0 (.slice (some ⟨g41, 0, none⟩) (J + 2) c41)) 1 (.slice (some ⟨g47, 0, none⟩) (m + 2) c47)) 2 (.slice (some ⟨g53, 0, none⟩) (n + 2) c53)) 3 (.slice (some ⟨g59, 0, none⟩) (k + 2) c59)) (nnA J m n k) (ffA (CT sf J) (zr df m j) (CT cf n) (CT vf k)) X) | _ => Below V.heap.size V X ∧ (FmI X5.heap.size 4 (updX (updX (updX (updX (fun _ => undef) 0 (.slice (some ⟨g41, 0, none⟩) (J + 2) c41)) 1 (.slice (some ⟨g47, 0, none⟩) (m + 2) c47)) 2 (.slice (some ⟨g53, 0, none⟩) (n + 2) c53)) 3 (.slice (some ⟨g59, 0, none⟩) (k + 2) c59)) (nnA J m n k) (ffA (CT sf J) (zr df m j) (CT cf n) (CT vf k)) X)) (fun s => fun i_ => match i_ with | 0 => .int .i64 ((j : Nat) : Int) | 1 => .int .i64 ((j : Nat) : Int) | _ => undef) () A.1 (by kernel_rfl) (by decide) (by decide) ⟨BB, FM5⟩ ?_ ?_
      · intro i_ hi_ s a X hf hv hn hS
        match i_, hi_ with
        | 0, _ => exact stepV rfl rfl (execMvB rfl ((hf 200 (by decide)).trans t200)) ⟨s, ⟨_, rfl, rfl⟩, hS, fun _ _ => rfl⟩
        | 1, _ => exact stepV rfl rfl (execAsgB rfl (hv 0 (by decide) _ rfl _ rfl)) ⟨s, ⟨_, rfl, rfl⟩, hS, fun _ _ => rfl⟩
        | k_ + 2, h_ => exact absurd h_ (by simp)
      rintro _ a X24 h1 h2 h3 h4 hS
      clear BB
      clear FM5
      replace hS : Below V.heap.size V X24 ∧ (FmI X5.heap.size 4 (updX (updX (updX (updX (fun _ => undef) 0 (.slice (some ⟨g41, 0, none⟩) (J + 2) c41)) 1 (.slice (some ⟨g47, 0, none⟩) (m + 2) c47)) 2 (.slice (some ⟨g53, 0, none⟩) (n + 2) c53)) 3 (.slice (some ⟨g59, 0, none⟩) (k + 2) c59)) (nnA J m n k) (ffA (CT sf J) (zr df m j) (CT cf n) (CT vf k)) X24) := hS
      obtain ⟨BB, FM5⟩ := hS
      replace t34 := (h3 34 (by decide)).trans t34
      replace t32 := (h3 32 (by decide)).trans t32
      replace t33 := (h3 33 (by decide)).trans t33
      replace t5 := (h3 5 (by decide)).trans t5
      replace t7 := (h3 7 (by decide)).trans t7
      replace t9 := (h3 9 (by decide)).trans t9
      replace t11 := (h3 11 (by decide)).trans t11
      replace t198 := (h3 198 (by decide)).trans t198
      replace t199 := (h3 199 (by decide)).trans t199
      replace t200 := (h3 200 (by decide)).trans t200
      have t28 : a.eval (.tmp 28) = .int .i64 ((j : Nat) : Int) := h4 1 _ rfl _ rfl
      replace A := (⟨h1, h2.trans A.2⟩ : a.tmps.size = 271 ∧ a.defers = [])
      clear h1 h2 h3 h4
      refine wp_region_sq (σ := Unit) 271 [(0, 203), (1, 204), (2, 205)] (fun j_ s X => match j_ with | 0 => Below V.heap.size V X ∧ (FmI X5.heap.size 4 (updX (updX (updX (updX (fun _ => undef) 0 (.slice (some ⟨g41, 0, none⟩) (J + 2) c41)) 1 (.slice (some ⟨g47, 0, none⟩) (m + 2) c47)) 2 (.slice (some ⟨g53, 0, none⟩) (n + 2) c53)) 3 (.slice (some ⟨g59, 0, none⟩) (k + 2) c59)) (nnA J m n k) (ffA (CT sf J) (zr df m j) (CT cf n) (CT vf k)) X) | 1 => Below V.heap.size V X ∧ (FmI X5.heap.size 4 (updX (updX (updX (updX (fun _ => undef) 0 (.slice (some ⟨g41, 0, none⟩) (J + 2) c41)) 1 (.slice (some ⟨g47, 0, none⟩) (m + 2) c47)) 2 (.slice (some ⟨g53, 0, none⟩) (n + 2) c53)) 3 (.slice (some ⟨g59, 0, none⟩) (k + 2) c59)) (nnA J m n k) (ffA (CT sf J) (zr df m j) (CT cf n) (CT vf k)) X) | 2 => Below V.heap.size V X ∧ (FmI X5.heap.size 4 (updX (updX (updX (updX (fun _ => undef) 0 (.slice (some ⟨g41, 0, none⟩) (J + 2) c41)) 1 (.slice (some ⟨g47, 0, none⟩) (m + 2) c47)) 2 (.slice (some ⟨g53, 0, none⟩) (n + 2) c53)) 3 (.slice (some ⟨g59, 0, none⟩) (k + 2) c59)) (nnA J m n k) (ffA (CT sf J) (zr df m j) (CT cf n) (CT vf k)) X) | 3 => Below V.heap.size V X ∧ (FmI X5.heap.size 4 (updX (updX (updX (updX (fun _ => undef) 0 (.slice (some ⟨g41, 0, none⟩) (J + 2) c41)) 1 (.slice (some ⟨g47, 0, none⟩) (m + 2) c47)) 2 (.slice (some ⟨g53, 0, none⟩) (n + 2) c53)) 3 (.slice (some ⟨g59, 0, none⟩) (k + 2) c59)) (nnA J m n k) (ffA (CT sf J) (zr df m j) (CT cf n) (CT vf k)) X) | _ => Below V.heap.size V X ∧ (FmI X5.heap.size 4 (updX (updX (updX (updX (fun _ => undef) 0 (.slice (some ⟨g41, 0, none⟩) (J + 2) c41)) 1 (.slice (some ⟨g47, 0, none⟩) (m + 2) c47)) 2 (.slice (some ⟨g53, 0, none⟩) (n + 2) c53)) 3 (.slice (some ⟨g59, 0, none⟩) (k + 2) c59)) (nnA J m n k) (ffA (CT sf J) (zr df m (j + 1)) (CT cf n) (CT vf k)) X)) (fun s => fun i_ => match i_ with | 0 => .slice (some ⟨g47, 0, none⟩) m c47 | 1 => .int .i64 ((j : Nat) : Int) | 2 => .pointer (some ⟨g47, 0 + j, none⟩) | 3 => undef | _ => undef) () A.1 (by kernel_rfl) (by decide) (by decide) ⟨BB, FM5⟩ ?_ ?_
      · intro i_ hi_ s a X hf hv hn hS
        match i_, hi_ with
        | 0, _ => exact stepV rfl rfl (execMvB rfl ((hf 7 (by decide)).trans t7)) ⟨s, ⟨_, rfl, rfl⟩, hS, fun _ _ => rfl⟩
        | 1, _ => exact stepV rfl rfl (execMvB rfl ((hf 28 (by decide)).trans t28)) ⟨s, ⟨_, rfl, rfl⟩, hS, fun _ _ => rfl⟩
        | 2, _ => exact stepV rfl rfl (execIdxN (k := j) rfl (hv 0 (by decide) _ rfl _ rfl) (hv 1 (by decide) _ rfl _ rfl) ltj) ⟨s, ⟨_, rfl, rfl⟩, hS, fun _ _ => rfl⟩
        | 3, _ =>
          obtain ⟨hc_, hf_⟩ := hS.2.cell (t := 1) (by omega) (show (updX (updX (updX (updX (fun _ => undef) 0 (.slice (some ⟨g41, 0, none⟩) (J + 2) c41)) 1 (.slice (some ⟨g47, 0, none⟩) (m + 2) c47)) 2 (.slice (some ⟨g53, 0, none⟩) (n + 2) c53)) 3 (.slice (some ⟨g59, 0, none⟩) (k + 2) c59)) 1 = .slice (some ⟨g47, 0, none⟩) (m + 2) c47 from rfl) (show j < m + 2 by omega)
          refine stepS rfl rfl (execStI9 (z := 0) rfl (hv 2 (by decide) _ rfl _ rfl) rfl hc_ hf_) ⟨s, ⟨_, rfl, rfl⟩, ⟨(hS.1).setCell (Nat.le_trans hV5 ((hS.2.rows 1 (by omega)).lt g47 rfl).1) _, FmI.cgF (hS.2.set (t := 1) (by omega) (show (updX (updX (updX (updX (fun _ => undef) 0 (.slice (some ⟨g41, 0, none⟩) (J + 2) c41)) 1 (.slice (some ⟨g47, 0, none⟩) (m + 2) c47)) 2 (.slice (some ⟨g53, 0, none⟩) (n + 2) c53)) 3 (.slice (some ⟨g59, 0, none⟩) (k + 2) c59)) 1 = .slice (some ⟨g47, 0, none⟩) (m + 2) c47 from rfl) 0) (zr_next1 _ _ _ df m j)⟩, fun i hi => ?_⟩
          match i, hi with
          | 0, _ => rfl
          | 1, _ => rfl
          | 2, _ => rfl
          | n_ + 3, h_ => omega
        | k_ + 4, h_ => exact absurd h_ (by simp)
      rintro _ a X25 h1 h2 h3 h4 hS
      clear BB
      clear FM5
      replace hS : Below V.heap.size V X25 ∧ (FmI X5.heap.size 4 (updX (updX (updX (updX (fun _ => undef) 0 (.slice (some ⟨g41, 0, none⟩) (J + 2) c41)) 1 (.slice (some ⟨g47, 0, none⟩) (m + 2) c47)) 2 (.slice (some ⟨g53, 0, none⟩) (n + 2) c53)) 3 (.slice (some ⟨g59, 0, none⟩) (k + 2) c59)) (nnA J m n k) (ffA (CT sf J) (zr df m (j + 1)) (CT cf n) (CT vf k)) X25) := hS
      obtain ⟨BB, FM51⟩ := hS
      replace t34 := (h3 34 (by decide)).trans t34
      replace t32 := (h3 32 (by decide)).trans t32
      replace t33 := (h3 33 (by decide)).trans t33
      replace t5 := (h3 5 (by decide)).trans t5
      replace t7 := (h3 7 (by decide)).trans t7
      replace t9 := (h3 9 (by decide)).trans t9
      replace t11 := (h3 11 (by decide)).trans t11
      replace t198 := (h3 198 (by decide)).trans t198
      replace t199 := (h3 199 (by decide)).trans t199
      replace t200 := (h3 200 (by decide)).trans t200
      replace A := (⟨h1, h2.trans A.2⟩ : a.tmps.size = 271 ∧ a.defers = [])
      clear h1 h2 h3 h4
      clear t28
      refine wp_region_sq (σ := Unit) 271 [(0, 206), (1, 200)] (fun j_ s X => match j_ with | 0 => Below V.heap.size V X ∧ (FmI X5.heap.size 4 (updX (updX (updX (updX (fun _ => undef) 0 (.slice (some ⟨g41, 0, none⟩) (J + 2) c41)) 1 (.slice (some ⟨g47, 0, none⟩) (m + 2) c47)) 2 (.slice (some ⟨g53, 0, none⟩) (n + 2) c53)) 3 (.slice (some ⟨g59, 0, none⟩) (k + 2) c59)) (nnA J m n k) (ffA (CT sf J) (zr df m (j + 1)) (CT cf n) (CT vf k)) X) | 1 => Below V.heap.size V X ∧ (FmI X5.heap.size 4 (updX (updX (updX (updX (fun _ => undef) 0 (.slice (some ⟨g41, 0, none⟩) (J + 2) c41)) 1 (.slice (some ⟨g47, 0, none⟩) (m + 2) c47)) 2 (.slice (some ⟨g53, 0, none⟩) (n + 2) c53)) 3 (.slice (some ⟨g59, 0, none⟩) (k + 2) c59)) (nnA J m n k) (ffA (CT sf J) (zr df m (j + 1)) (CT cf n) (CT vf k)) X) | _ => Below V.heap.size V X ∧ (FmI X5.heap.size 4 (updX (updX (updX (updX (fun _ => undef) 0 (.slice (some ⟨g41, 0, none⟩) (J + 2) c41)) 1 (.slice (some ⟨g47, 0, none⟩) (m + 2) c47)) 2 (.slice (some ⟨g53, 0, none⟩) (n + 2) c53)) 3 (.slice (some ⟨g59, 0, none⟩) (k + 2) c59)) (nnA J m n k) (ffA (CT sf J) (zr df m (j + 1)) (CT cf n) (CT vf k)) X)) (fun s => fun i_ => match i_ with | 0 => .int .i64 ((j + 1 : Nat) : Int) | 1 => .int .i64 ((j + 1 : Nat) : Int) | _ => undef) () A.1 (by kernel_rfl) (by decide) (by decide) ⟨BB, FM51⟩ ?_ ?_
      · intro i_ hi_ s a X hf hv hn hS
        match i_, hi_ with
        | 0, _ => exact stepV rfl rfl (execAd8 (p := j) (q := 1) rfl ((hn 1 (by decide) _ rfl _ rfl).trans t200) rfl (by omega)) ⟨s, ⟨_, rfl, rfl⟩, hS, fun _ _ => rfl⟩
        | 1, _ => exact stepV rfl rfl (execMvB rfl (hv 0 (by decide) _ rfl _ rfl)) ⟨s, ⟨_, rfl, rfl⟩, hS, fun _ _ => rfl⟩
        | k_ + 2, h_ => exact absurd h_ (by simp)
      rintro _ a X26 h1 h2 h3 h4 hS
      clear BB
      clear FM51
      replace hS : Below V.heap.size V X26 ∧ (FmI X5.heap.size 4 (updX (updX (updX (updX (fun _ => undef) 0 (.slice (some ⟨g41, 0, none⟩) (J + 2) c41)) 1 (.slice (some ⟨g47, 0, none⟩) (m + 2) c47)) 2 (.slice (some ⟨g53, 0, none⟩) (n + 2) c53)) 3 (.slice (some ⟨g59, 0, none⟩) (k + 2) c59)) (nnA J m n k) (ffA (CT sf J) (zr df m (j + 1)) (CT cf n) (CT vf k)) X26) := hS
      obtain ⟨BB, FM51⟩ := hS
      replace t34 := (h3 34 (by decide)).trans t34
      replace t32 := (h3 32 (by decide)).trans t32
      replace t33 := (h3 33 (by decide)).trans t33
      replace t5 := (h3 5 (by decide)).trans t5
      replace t7 := (h3 7 (by decide)).trans t7
      replace t9 := (h3 9 (by decide)).trans t9
      replace t11 := (h3 11 (by decide)).trans t11
      replace t198 := (h3 198 (by decide)).trans t198
      replace t199 := (h3 199 (by decide)).trans t199
      replace t200 : a.eval (.tmp 200) = .int .i64 ((j + 1 : Nat) : Int) := h4 1 _ rfl _ rfl
      replace A := (⟨h1, h2.trans A.2⟩ : a.tmps.size = 271 ∧ a.defers = [])
      clear h1 h2 h3 h4
      exact ⟨⟨j + 1, ltj, A, t34, t32, t33, t5, t7, t9, t11, t198, t199, t200, BB, FM51⟩, by show m - (intOf (a.eval (.tmp 200))).toNat < m - (intOf (Act.eval _ (.tmp 200))).toNat; rw [t200, esj]; show m - (j + 1) < m - j; omega⟩
    · rw [decide_eq_false ltj] at t201
      refine wp_cond_false t201 ?_
      refine wp_exit ?_
      first | with_reducible refine exit_in ?_ | with_reducible refine exit_then (exit_in ?_) | with_reducible refine exit_then (exit_then (exit_in ?_)) | refine exit_in ?_ | refine exit_then (exit_in ?_) | refine exit_then (exit_then (exit_in ?_))
      clear t201 esj
      have hjz : j = m := by omega
      rw [hjz] at FM5
      clear t200 t199 t198
      clear hjz ltj hj
      refine wp_seq ?_
      refine wp_seq ?_
      refine wp_region_sq (σ := Unit) 271 [(0, 207), (1, 208), (2, 209)] (fun j_ s X => match j_ with | 0 => Below V.heap.size V X ∧ (FmI X5.heap.size 4 (updX (updX (updX (updX (fun _ => undef) 0 (.slice (some ⟨g41, 0, none⟩) (J + 2) c41)) 1 (.slice (some ⟨g47, 0, none⟩) (m + 2) c47)) 2 (.slice (some ⟨g53, 0, none⟩) (n + 2) c53)) 3 (.slice (some ⟨g59, 0, none⟩) (k + 2) c59)) (nnA J m n k) (ffA (CT sf J) (zr df m m) (CT cf n) (CT vf k)) X) | 1 => Below V.heap.size V X ∧ (FmI X5.heap.size 4 (updX (updX (updX (updX (fun _ => undef) 0 (.slice (some ⟨g41, 0, none⟩) (J + 2) c41)) 1 (.slice (some ⟨g47, 0, none⟩) (m + 2) c47)) 2 (.slice (some ⟨g53, 0, none⟩) (n + 2) c53)) 3 (.slice (some ⟨g59, 0, none⟩) (k + 2) c59)) (nnA J m n k) (ffA (CT sf J) (zr df m m) (CT cf n) (CT vf k)) X) | 2 => Below V.heap.size V X ∧ (FmI X5.heap.size 4 (updX (updX (updX (updX (fun _ => undef) 0 (.slice (some ⟨g41, 0, none⟩) (J + 2) c41)) 1 (.slice (some ⟨g47, 0, none⟩) (m + 2) c47)) 2 (.slice (some ⟨g53, 0, none⟩) (n + 2) c53)) 3 (.slice (some ⟨g59, 0, none⟩) (k + 2) c59)) (nnA J m n k) (ffA (CT sf J) (zr df m m) (CT cf n) (CT vf k)) X) | _ => Below V.heap.size V X ∧ (FmI X5.heap.size 4 (updX (updX (updX (updX (fun _ => undef) 0 (.slice (some ⟨g41, 0, none⟩) (J + 2) c41)) 1 (.slice (some ⟨g47, 0, none⟩) (m + 2) c47)) 2 (.slice (some ⟨g53, 0, none⟩) (n + 2) c53)) 3 (.slice (some ⟨g59, 0, none⟩) (k + 2) c59)) (nnA J m n k) (ffA (CT sf J) (zr df m m) (CT cf n) (CT vf k)) X)) (fun s => fun i_ => match i_ with | 0 => .slice (some ⟨g59, 0, none⟩) k c59 | 1 => .int .i64 ((k : Nat) : Int) | 2 => .int .i64 ((0 : Nat) : Int) | _ => undef) () A.1 (by kernel_rfl) (by decide) (by decide) ⟨BB, FM5⟩ ?_ ?_
      · intro i_ hi_ s a X hf hv hn hS
        match i_, hi_ with
        | 0, _ => exact stepV rfl rfl (execMvB rfl ((hf 11 (by decide)).trans t11)) ⟨s, ⟨_, rfl, rfl⟩, hS, fun _ _ => rfl⟩
        | 1, _ => exact stepV rfl rfl (execLenI (len := k) rfl (hv 0 (by decide) _ rfl _ rfl) ⟨_, _, rfl⟩) ⟨s, ⟨_, rfl, rfl⟩, hS, fun _ _ => rfl⟩
        | 2, _ => exact stepV rfl rfl (execMvB rfl rfl) ⟨s, ⟨_, rfl, rfl⟩, hS, fun _ _ => rfl⟩
        | k_ + 3, h_ => exact absurd h_ (by simp)
      rintro _ a X27 h1 h2 h3 h4 hS
      clear BB
      clear FM5
      replace hS : Below V.heap.size V X27 ∧ (FmI X5.heap.size 4 (updX (updX (updX (updX (fun _ => undef) 0 (.slice (some ⟨g41, 0, none⟩) (J + 2) c41)) 1 (.slice (some ⟨g47, 0, none⟩) (m + 2) c47)) 2 (.slice (some ⟨g53, 0, none⟩) (n + 2) c53)) 3 (.slice (some ⟨g59, 0, none⟩) (k + 2) c59)) (nnA J m n k) (ffA (CT sf J) (zr df m m) (CT cf n) (CT vf k)) X27) := hS
      obtain ⟨BB, FM5⟩ := hS
      replace t32 := (h3 32 (by decide)).trans t32
      replace t33 := (h3 33 (by decide)).trans t33
      replace t34 := (h3 34 (by decide)).trans t34
      replace t5 := (h3 5 (by decide)).trans t5
      replace t7 := (h3 7 (by decide)).trans t7
      replace t9 := (h3 9 (by decide)).trans t9
      replace t11 := (h3 11 (by decide)).trans t11
      have t207 : a.eval (.tmp 207) = .slice (some ⟨g59, 0, none⟩) k c59 := h4 0 _ rfl _ rfl
      have t208 : a.eval (.tmp 208) = .int .i64 ((k : Nat) : Int) := h4 1 _ rfl _ rfl
      have t209 : a.eval (.tmp 209) = .int .i64 ((0 : Nat) : Int) := h4 2 _ rfl _ rfl
      replace A := (⟨h1, h2.trans A.2⟩ : a.tmps.size = 271 ∧ a.defers = [])
      clear h1 h2 h3 h4
      have FM7 : (FmI X5.heap.size 4 (updX (updX (updX (updX (fun _ => undef) 0 (.slice (some ⟨g41, 0, none⟩) (J + 2) c41)) 1 (.slice (some ⟨g47, 0, none⟩) (m + 2) c47)) 2 (.slice (some ⟨g53, 0, none⟩) (n + 2) c53)) 3 (.slice (some ⟨g59, 0, none⟩) (k + 2) c59)) (nnA J m n k) (ffA (CT sf J) (zr df m m) (CT cf n) (zr vf k 0)) X27) := FmI.cgF FM5 (fun t ht j _ => by match t, ht with | 0, _ => rfl | 1, _ => rfl | 2, _ => rfl | 3, _ => rfl | t + 4, h => omega)
      clear FM5
      refine wp_block ?_
      refine wp_loop (fun a W => ∃ (j : Nat), j ≤ k ∧ (a.tmps.size = 271 ∧ a.defers = []) ∧ a.eval (.tmp 34) = .int .i64 ((i : Nat) : Int) ∧ a.eval (.tmp 32) = v ∧ a.eval (.tmp 33) = .int .i64 ((N : Nat) : Int) ∧ a.eval (.tmp 5) = .slice (some ⟨g41, 0, none⟩) J c41 ∧ a.eval (.tmp 7) = .slice (some ⟨g47, 0, none⟩) m c47 ∧ a.eval (.tmp 9) = .slice (some ⟨g53, 0, none⟩) n c53 ∧ a.eval (.tmp 11) = .slice (some ⟨g59, 0, none⟩) k c59 ∧ a.eval (.tmp 207) = .slice (some ⟨g59, 0, none⟩) k c59 ∧ a.eval (.tmp 208) = .int .i64 ((k : Nat) : Int) ∧ a.eval (.tmp 209) = .int .i64 ((j : Nat) : Int) ∧ Below V.heap.size V W ∧ (FmI X5.heap.size 4 (updX (updX (updX (updX (fun _ => undef) 0 (.slice (some ⟨g41, 0, none⟩) (J + 2) c41)) 1 (.slice (some ⟨g47, 0, none⟩) (m + 2) c47)) 2 (.slice (some ⟨g53, 0, none⟩) (n + 2) c53)) 3 (.slice (some ⟨g59, 0, none⟩) (k + 2) c59)) (nnA J m n k) (ffA (CT sf J) (zr df m m) (CT cf n) (zr vf k j)) W)) (fun a _ => k - (intOf (a.eval (.tmp 209))).toNat) ⟨0, Nat.zero_le _, A, t34, t32, t33, t5, t7, t9, t11, t207, t208, t209, BB, FM7⟩ ?_
      clear A t34 t32 t33 t5 t7 t9 t11 t207 t208 t209 BB FM7 a
      rintro a XL28 ⟨j, hj, A, t34, t32, t33, t5, t7, t9, t11, t207, t208, t209, BB, FM7⟩
      have esj := t209
      refine wp_seq ?_
      refine wp_region_sq (σ := Unit) 271 [(0, 210)] (fun j_ s X => match j_ with | 0 => Below V.heap.size V X ∧ (FmI X5.heap.size 4 (updX (updX (updX (updX (fun _ => undef) 0 (.slice (some ⟨g41, 0, none⟩) (J + 2) c41)) 1 (.slice (some ⟨g47, 0, none⟩) (m + 2) c47)) 2 (.slice (some ⟨g53, 0, none⟩) (n + 2) c53)) 3 (.slice (some ⟨g59, 0, none⟩) (k + 2) c59)) (nnA J m n k) (ffA (CT sf J) (zr df m m) (CT cf n) (zr vf k j)) X) | _ => Below V.heap.size V X ∧ (FmI X5.heap.size 4 (updX (updX (updX (updX (fun _ => undef) 0 (.slice (some ⟨g41, 0, none⟩) (J + 2) c41)) 1 (.slice (some ⟨g47, 0, none⟩) (m + 2) c47)) 2 (.slice (some ⟨g53, 0, none⟩) (n + 2) c53)) 3 (.slice (some ⟨g59, 0, none⟩) (k + 2) c59)) (nnA J m n k) (ffA (CT sf J) (zr df m m) (CT cf n) (zr vf k j)) X)) (fun s => fun i_ => match i_ with | 0 => .bool (decide (j < k)) | _ => undef) () A.1 (by kernel_rfl) (by decide) (by decide) ⟨BB, FM7⟩ ?_ ?_
      · intro i_ hi_ s a X hf hv hn hS
        match i_, hi_ with
        | 0, _ => exact stepV rfl rfl (execLtW (p := j) (q := k) rfl ((hf 209 (by decide)).trans t209) ((hf 208 (by decide)).trans t208)) ⟨s, ⟨_, rfl, rfl⟩, hS, fun _ _ => rfl⟩
        | k_ + 1, h_ => exact absurd h_ (by simp)
      rintro _ a X28 h1 h2 h3 h4 hS
      clear BB
      clear FM7
      replace hS : Below V.heap.size V X28 ∧ (FmI X5.heap.size 4 (updX (updX (updX (updX (fun _ => undef) 0 (.slice (some ⟨g41, 0, none⟩) (J + 2) c41)) 1 (.slice (some ⟨g47, 0, none⟩) (m + 2) c47)) 2 (.slice (some ⟨g53, 0, none⟩) (n + 2) c53)) 3 (.slice (some ⟨g59, 0, none⟩) (k + 2) c59)) (nnA J m n k) (ffA (CT sf J) (zr df m m) (CT cf n) (zr vf k j)) X28) := hS
      obtain ⟨BB, FM7⟩ := hS
      replace t34 := (h3 34 (by decide)).trans t34
      replace t32 := (h3 32 (by decide)).trans t32
      replace t33 := (h3 33 (by decide)).trans t33
      replace t5 := (h3 5 (by decide)).trans t5
      replace t7 := (h3 7 (by decide)).trans t7
      replace t9 := (h3 9 (by decide)).trans t9
      replace t11 := (h3 11 (by decide)).trans t11
      replace t207 := (h3 207 (by decide)).trans t207
      replace t208 := (h3 208 (by decide)).trans t208
      replace t209 := (h3 209 (by decide)).trans t209
      have t210 : a.eval (.tmp 210) = .bool (decide (j < k)) := h4 0 _ rfl _ rfl
      replace A := (⟨h1, h2.trans A.2⟩ : a.tmps.size = 271 ∧ a.defers = [])
      clear h1 h2 h3 h4
      refine wp_seq ?_
      by_cases ltj : j < k
      · rw [decide_eq_true ltj] at t210
        refine wp_cond_true t210 ?_
        refine wp_skip ?_
        clear t210
        refine wp_seq ?_
        refine wp_block ?_
        refine wp_seq ?_
        refine wp_region_sq (σ := Unit) 271 [(0, 211), (1, 29)] (fun j_ s X => match j_ with | 0 => Below V.heap.size V X ∧ (FmI X5.heap.size 4 (updX (updX (updX (updX (fun _ => undef) 0 (.slice (some ⟨g41, 0, none⟩) (J + 2) c41)) 1 (.slice (some ⟨g47, 0, none⟩) (m + 2) c47)) 2 (.slice (some ⟨g53, 0, none⟩) (n + 2) c53)) 3 (.slice (some ⟨g59, 0, none⟩) (k + 2) c59)) (nnA J m n k) (ffA (CT sf J) (zr df m m) (CT cf n) (zr vf k j)) X) | 1 => Below V.heap.size V X ∧ (FmI X5.heap.size 4 (updX (updX (updX (updX (fun _ => undef) 0 (.slice (some ⟨g41, 0, none⟩) (J + 2) c41)) 1 (.slice (some ⟨g47, 0, none⟩) (m + 2) c47)) 2 (.slice (some ⟨g53, 0, none⟩) (n + 2) c53)) 3 (.slice (some ⟨g59, 0, none⟩) (k + 2) c59)) (nnA J m n k) (ffA (CT sf J) (zr df m m) (CT cf n) (zr vf k j)) X) | _ => Below V.heap.size V X ∧ (FmI X5.heap.size 4 (updX (updX (updX (updX (fun _ => undef) 0 (.slice (some ⟨g41, 0, none⟩) (J + 2) c41)) 1 (.slice (some ⟨g47, 0, none⟩) (m + 2) c47)) 2 (.slice (some ⟨g53, 0, none⟩) (n + 2) c53)) 3 (.slice (some ⟨g59, 0, none⟩) (k + 2) c59)) (nnA J m n k) (ffA (CT sf J) (zr df m m) (CT cf n) (zr vf k j)) X)) (fun s => fun i_ => match i_ with | 0 => .int .i64 ((j : Nat) : Int) | 1 => .int .i64 ((j : Nat) : Int) | _ => undef) () A.1 (by kernel_rfl) (by decide) (by decide) ⟨BB, FM7⟩ ?_ ?_
        · intro i_ hi_ s a X hf hv hn hS
          match i_, hi_ with
          | 0, _ => exact stepV rfl rfl (execMvB rfl ((hf 209 (by decide)).trans t209)) ⟨s, ⟨_, rfl, rfl⟩, hS, fun _ _ => rfl⟩
          | 1, _ => exact stepV rfl rfl (execAsgB rfl (hv 0 (by decide) _ rfl _ rfl)) ⟨s, ⟨_, rfl, rfl⟩, hS, fun _ _ => rfl⟩
          | k_ + 2, h_ => exact absurd h_ (by simp)
        rintro _ a X29 h1 h2 h3 h4 hS
        clear BB
        clear FM7
        replace hS : Below V.heap.size V X29 ∧ (FmI X5.heap.size 4 (updX (updX (updX (updX (fun _ => undef) 0 (.slice (some ⟨g41, 0, none⟩) (J + 2) c41)) 1 (.slice (some ⟨g47, 0, none⟩) (m + 2) c47)) 2 (.slice (some ⟨g53, 0, none⟩) (n + 2) c53)) 3 (.slice (some ⟨g59, 0, none⟩) (k + 2) c59)) (nnA J m n k) (ffA (CT sf J) (zr df m m) (CT cf n) (zr vf k j)) X29) := hS
        obtain ⟨BB, FM7⟩ := hS
        replace t34 := (h3 34 (by decide)).trans t34
        replace t32 := (h3 32 (by decide)).trans t32
        replace t33 := (h3 33 (by decide)).trans t33
        replace t5 := (h3 5 (by decide)).trans t5
        replace t7 := (h3 7 (by decide)).trans t7
        replace t9 := (h3 9 (by decide)).trans t9
        replace t11 := (h3 11 (by decide)).trans t11
        replace t207 := (h3 207 (by decide)).trans t207
        replace t208 := (h3 208 (by decide)).trans t208
        replace t209 := (h3 209 (by decide)).trans t209
        have t29 : a.eval (.tmp 29) = .int .i64 ((j : Nat) : Int) := h4 1 _ rfl _ rfl
        replace A := (⟨h1, h2.trans A.2⟩ : a.tmps.size = 271 ∧ a.defers = [])
        clear h1 h2 h3 h4
        refine wp_region_sq (σ := Unit) 271 [(0, 212), (1, 213), (2, 214)] (fun j_ s X => match j_ with | 0 => Below V.heap.size V X ∧ (FmI X5.heap.size 4 (updX (updX (updX (updX (fun _ => undef) 0 (.slice (some ⟨g41, 0, none⟩) (J + 2) c41)) 1 (.slice (some ⟨g47, 0, none⟩) (m + 2) c47)) 2 (.slice (some ⟨g53, 0, none⟩) (n + 2) c53)) 3 (.slice (some ⟨g59, 0, none⟩) (k + 2) c59)) (nnA J m n k) (ffA (CT sf J) (zr df m m) (CT cf n) (zr vf k j)) X) | 1 => Below V.heap.size V X ∧ (FmI X5.heap.size 4 (updX (updX (updX (updX (fun _ => undef) 0 (.slice (some ⟨g41, 0, none⟩) (J + 2) c41)) 1 (.slice (some ⟨g47, 0, none⟩) (m + 2) c47)) 2 (.slice (some ⟨g53, 0, none⟩) (n + 2) c53)) 3 (.slice (some ⟨g59, 0, none⟩) (k + 2) c59)) (nnA J m n k) (ffA (CT sf J) (zr df m m) (CT cf n) (zr vf k j)) X) | 2 => Below V.heap.size V X ∧ (FmI X5.heap.size 4 (updX (updX (updX (updX (fun _ => undef) 0 (.slice (some ⟨g41, 0, none⟩) (J + 2) c41)) 1 (.slice (some ⟨g47, 0, none⟩) (m + 2) c47)) 2 (.slice (some ⟨g53, 0, none⟩) (n + 2) c53)) 3 (.slice (some ⟨g59, 0, none⟩) (k + 2) c59)) (nnA J m n k) (ffA (CT sf J) (zr df m m) (CT cf n) (zr vf k j)) X) | 3 => Below V.heap.size V X ∧ (FmI X5.heap.size 4 (updX (updX (updX (updX (fun _ => undef) 0 (.slice (some ⟨g41, 0, none⟩) (J + 2) c41)) 1 (.slice (some ⟨g47, 0, none⟩) (m + 2) c47)) 2 (.slice (some ⟨g53, 0, none⟩) (n + 2) c53)) 3 (.slice (some ⟨g59, 0, none⟩) (k + 2) c59)) (nnA J m n k) (ffA (CT sf J) (zr df m m) (CT cf n) (zr vf k j)) X) | _ => Below V.heap.size V X ∧ (FmI X5.heap.size 4 (updX (updX (updX (updX (fun _ => undef) 0 (.slice (some ⟨g41, 0, none⟩) (J + 2) c41)) 1 (.slice (some ⟨g47, 0, none⟩) (m + 2) c47)) 2 (.slice (some ⟨g53, 0, none⟩) (n + 2) c53)) 3 (.slice (some ⟨g59, 0, none⟩) (k + 2) c59)) (nnA J m n k) (ffA (CT sf J) (zr df m m) (CT cf n) (zr vf k (j + 1))) X)) (fun s => fun i_ => match i_ with | 0 => .slice (some ⟨g59, 0, none⟩) k c59 | 1 => .int .i64 ((j : Nat) : Int) | 2 => .pointer (some ⟨g59, 0 + j, none⟩) | 3 => undef | _ => undef) () A.1 (by kernel_rfl) (by decide) (by decide) ⟨BB, FM7⟩ ?_ ?_
        · intro i_ hi_ s a X hf hv hn hS
          match i_, hi_ with
          | 0, _ => exact stepV rfl rfl (execMvB rfl ((hf 11 (by decide)).trans t11)) ⟨s, ⟨_, rfl, rfl⟩, hS, fun _ _ => rfl⟩
          | 1, _ => exact stepV rfl rfl (execMvB rfl ((hf 29 (by decide)).trans t29)) ⟨s, ⟨_, rfl, rfl⟩, hS, fun _ _ => rfl⟩
          | 2, _ => exact stepV rfl rfl (execIdxN (k := j) rfl (hv 0 (by decide) _ rfl _ rfl) (hv 1 (by decide) _ rfl _ rfl) ltj) ⟨s, ⟨_, rfl, rfl⟩, hS, fun _ _ => rfl⟩
          | 3, _ =>
            obtain ⟨hc_, hf_⟩ := hS.2.cell (t := 3) (by omega) (show (updX (updX (updX (updX (fun _ => undef) 0 (.slice (some ⟨g41, 0, none⟩) (J + 2) c41)) 1 (.slice (some ⟨g47, 0, none⟩) (m + 2) c47)) 2 (.slice (some ⟨g53, 0, none⟩) (n + 2) c53)) 3 (.slice (some ⟨g59, 0, none⟩) (k + 2) c59)) 3 = .slice (some ⟨g59, 0, none⟩) (k + 2) c59 from rfl) (show j < k + 2 by omega)
            refine stepS rfl rfl (execStI9 (z := 0) rfl (hv 2 (by decide) _ rfl _ rfl) rfl hc_ hf_) ⟨s, ⟨_, rfl, rfl⟩, ⟨(hS.1).setCell (Nat.le_trans hV5 ((hS.2.rows 3 (by omega)).lt g59 rfl).1) _, FmI.cgF (hS.2.set (t := 3) (by omega) (show (updX (updX (updX (updX (fun _ => undef) 0 (.slice (some ⟨g41, 0, none⟩) (J + 2) c41)) 1 (.slice (some ⟨g47, 0, none⟩) (m + 2) c47)) 2 (.slice (some ⟨g53, 0, none⟩) (n + 2) c53)) 3 (.slice (some ⟨g59, 0, none⟩) (k + 2) c59)) 3 = .slice (some ⟨g59, 0, none⟩) (k + 2) c59 from rfl) 0) (zr_next3 _ _ _ vf k j)⟩, fun i hi => ?_⟩
            match i, hi with
            | 0, _ => rfl
            | 1, _ => rfl
            | 2, _ => rfl
            | n_ + 3, h_ => omega
          | k_ + 4, h_ => exact absurd h_ (by simp)
        rintro _ a X30 h1 h2 h3 h4 hS
        clear BB
        clear FM7
        replace hS : Below V.heap.size V X30 ∧ (FmI X5.heap.size 4 (updX (updX (updX (updX (fun _ => undef) 0 (.slice (some ⟨g41, 0, none⟩) (J + 2) c41)) 1 (.slice (some ⟨g47, 0, none⟩) (m + 2) c47)) 2 (.slice (some ⟨g53, 0, none⟩) (n + 2) c53)) 3 (.slice (some ⟨g59, 0, none⟩) (k + 2) c59)) (nnA J m n k) (ffA (CT sf J) (zr df m m) (CT cf n) (zr vf k (j + 1))) X30) := hS
        obtain ⟨BB, FM71⟩ := hS
        replace t34 := (h3 34 (by decide)).trans t34
        replace t32 := (h3 32 (by decide)).trans t32
        replace t33 := (h3 33 (by decide)).trans t33
        replace t5 := (h3 5 (by decide)).trans t5
        replace t7 := (h3 7 (by decide)).trans t7
        replace t9 := (h3 9 (by decide)).trans t9
        replace t11 := (h3 11 (by decide)).trans t11
        replace t207 := (h3 207 (by decide)).trans t207
        replace t208 := (h3 208 (by decide)).trans t208
        replace t209 := (h3 209 (by decide)).trans t209
        replace A := (⟨h1, h2.trans A.2⟩ : a.tmps.size = 271 ∧ a.defers = [])
        clear h1 h2 h3 h4
        clear t29
        refine wp_region_sq (σ := Unit) 271 [(0, 215), (1, 209)] (fun j_ s X => match j_ with | 0 => Below V.heap.size V X ∧ (FmI X5.heap.size 4 (updX (updX (updX (updX (fun _ => undef) 0 (.slice (some ⟨g41, 0, none⟩) (J + 2) c41)) 1 (.slice (some ⟨g47, 0, none⟩) (m + 2) c47)) 2 (.slice (some ⟨g53, 0, none⟩) (n + 2) c53)) 3 (.slice (some ⟨g59, 0, none⟩) (k + 2) c59)) (nnA J m n k) (ffA (CT sf J) (zr df m m) (CT cf n) (zr vf k (j + 1))) X) | 1 => Below V.heap.size V X ∧ (FmI X5.heap.size 4 (updX (updX (updX (updX (fun _ => undef) 0 (.slice (some ⟨g41, 0, none⟩) (J + 2) c41)) 1 (.slice (some ⟨g47, 0, none⟩) (m + 2) c47)) 2 (.slice (some ⟨g53, 0, none⟩) (n + 2) c53)) 3 (.slice (some ⟨g59, 0, none⟩) (k + 2) c59)) (nnA J m n k) (ffA (CT sf J) (zr df m m) (CT cf n) (zr vf k (j + 1))) X) | _ => Below V.heap.size V X ∧ (FmI X5.heap.size 4 (updX (updX (updX (updX (fun _ => undef) 0 (.slice (some ⟨g41, 0, none⟩) (J + 2) c41)) 1 (.slice (some ⟨g47, 0, none⟩) (m + 2) c47)) 2 (.slice (some ⟨g53, 0, none⟩) (n + 2) c53)) 3 (.slice (some ⟨g59, 0, none⟩) (k + 2) c59)) (nnA J m n k) (ffA (CT sf J) (zr df m m) (CT cf n) (zr vf k (j + 1))) X)) (fun s => fun i_ => match i_ with | 0 => .int .i64 ((j + 1 : Nat) : Int) | 1 => .int .i64 ((j + 1 : Nat) : Int) | _ => undef) () A.1 (by kernel_rfl) (by decide) (by decide) ⟨BB, FM71⟩ ?_ ?_
        · intro i_ hi_ s a X hf hv hn hS
          match i_, hi_ with
          | 0, _ => exact stepV rfl rfl (execAd8 (p := j) (q := 1) rfl ((hn 1 (by decide) _ rfl _ rfl).trans t209) rfl (by omega)) ⟨s, ⟨_, rfl, rfl⟩, hS, fun _ _ => rfl⟩
          | 1, _ => exact stepV rfl rfl (execMvB rfl (hv 0 (by decide) _ rfl _ rfl)) ⟨s, ⟨_, rfl, rfl⟩, hS, fun _ _ => rfl⟩
          | k_ + 2, h_ => exact absurd h_ (by simp)
        rintro _ a X31 h1 h2 h3 h4 hS
        clear BB
        clear FM71
        replace hS : Below V.heap.size V X31 ∧ (FmI X5.heap.size 4 (updX (updX (updX (updX (fun _ => undef) 0 (.slice (some ⟨g41, 0, none⟩) (J + 2) c41)) 1 (.slice (some ⟨g47, 0, none⟩) (m + 2) c47)) 2 (.slice (some ⟨g53, 0, none⟩) (n + 2) c53)) 3 (.slice (some ⟨g59, 0, none⟩) (k + 2) c59)) (nnA J m n k) (ffA (CT sf J) (zr df m m) (CT cf n) (zr vf k (j + 1))) X31) := hS
        obtain ⟨BB, FM71⟩ := hS
        replace t34 := (h3 34 (by decide)).trans t34
        replace t32 := (h3 32 (by decide)).trans t32
        replace t33 := (h3 33 (by decide)).trans t33
        replace t5 := (h3 5 (by decide)).trans t5
        replace t7 := (h3 7 (by decide)).trans t7
        replace t9 := (h3 9 (by decide)).trans t9
        replace t11 := (h3 11 (by decide)).trans t11
        replace t207 := (h3 207 (by decide)).trans t207
        replace t208 := (h3 208 (by decide)).trans t208
        replace t209 : a.eval (.tmp 209) = .int .i64 ((j + 1 : Nat) : Int) := h4 1 _ rfl _ rfl
        replace A := (⟨h1, h2.trans A.2⟩ : a.tmps.size = 271 ∧ a.defers = [])
        clear h1 h2 h3 h4
        exact ⟨⟨j + 1, ltj, A, t34, t32, t33, t5, t7, t9, t11, t207, t208, t209, BB, FM71⟩, by show k - (intOf (a.eval (.tmp 209))).toNat < k - (intOf (Act.eval _ (.tmp 209))).toNat; rw [t209, esj]; show k - (j + 1) < k - j; omega⟩
      · rw [decide_eq_false ltj] at t210
        refine wp_cond_false t210 ?_
        refine wp_exit ?_
        first | with_reducible refine exit_in ?_ | with_reducible refine exit_then (exit_in ?_) | with_reducible refine exit_then (exit_then (exit_in ?_)) | refine exit_in ?_ | refine exit_then (exit_in ?_) | refine exit_then (exit_then (exit_in ?_))
        clear t210 esj
        have hjz : j = k := by omega
        rw [hjz] at FM7
        clear t209 t208 t207
        have BW := BB
        clear BB
        refine wp_seq ?_
        refine wp_region_sq (σ := Value × Value) 271 [(0, 217), (1, 218), (2, 219), (3, 216), (4, 220), (5, 221), (6, 222), (7, 13), (8, 14), (9, 15)] (fun j_ s X => match j_ with | 0 => Below X28.heap.size X28 X | 1 => Below X28.heap.size X28 X | 2 => Below X28.heap.size X28 X | 3 => Below X28.heap.size X28 X ∧ (SliceI X s.1 (zl (paE sf J (fun _ => 0) m) m) (pcF sf J (fun _ => 0))) ∧ (SliceI X s.2 (zl (paE sf J (fun _ => 0) m) m) (poF sf J (fun _ => 0) m)) | 4 => Below X28.heap.size X28 X ∧ (SliceI X s.1 (zl (paE sf J (fun _ => 0) m) m) (pcF sf J (fun _ => 0))) ∧ (SliceI X s.2 (zl (paE sf J (fun _ => 0) m) m) (poF sf J (fun _ => 0) m)) | 5 => Below X28.heap.size X28 X ∧ (SliceI X s.1 (zl (paE sf J (fun _ => 0) m) m) (pcF sf J (fun _ => 0))) ∧ (SliceI X s.2 (zl (paE sf J (fun _ => 0) m) m) (poF sf J (fun _ => 0) m)) | 6 => Below X28.heap.size X28 X ∧ (SliceI X s.1 (zl (paE sf J (fun _ => 0) m) m) (pcF sf J (fun _ => 0))) ∧ (SliceI X s.2 (zl (paE sf J (fun _ => 0) m) m) (poF sf J (fun _ => 0) m)) | 7 => Below X28.heap.size X28 X ∧ (SliceI X s.1 (zl (paE sf J (fun _ => 0) m) m) (pcF sf J (fun _ => 0))) ∧ (SliceI X s.2 (zl (paE sf J (fun _ => 0) m) m) (poF sf J (fun _ => 0) m)) | 8 => Below X28.heap.size X28 X ∧ (SliceI X s.1 (zl (paE sf J (fun _ => 0) m) m) (pcF sf J (fun _ => 0))) ∧ (SliceI X s.2 (zl (paE sf J (fun _ => 0) m) m) (poF sf J (fun _ => 0) m)) | 9 => Below X28.heap.size X28 X ∧ (SliceI X s.1 (zl (paE sf J (fun _ => 0) m) m) (pcF sf J (fun _ => 0))) ∧ (SliceI X s.2 (zl (paE sf J (fun _ => 0) m) m) (poF sf J (fun _ => 0) m)) | _ => Below X28.heap.size X28 X ∧ (SliceI X s.1 (zl (paE sf J (fun _ => 0) m) m) (pcF sf J (fun _ => 0))) ∧ (SliceI X s.2 (zl (paE sf J (fun _ => 0) m) m) (poF sf J (fun _ => 0) m))) (fun s => fun i_ => match i_ with | 0 => .slice (some ⟨g41, 0, none⟩) J c41 | 1 => .slice (some ⟨g47, 0, none⟩) m c47 | 2 => .tuple #[s.1, s.2, .int .i64 ((paE sf J (fun _ => 0) m : Nat) : Int)] | 3 => .tuple #[s.1, s.2, .int .i64 ((paE sf J (fun _ => 0) m : Nat) : Int)] | 4 => s.1 | 5 => s.2 | 6 => .int .i64 ((paE sf J (fun _ => 0) m : Nat) : Int) | 7 => s.1 | 8 => s.2 | 9 => .int .i64 ((paE sf J (fun _ => 0) m : Nat) : Int) | _ => undef) (undef, undef) A.1 (by kernel_rfl) (by decide) (by decide) (Below.refl _ _) ?_ ?_
        · intro i_ hi_ s a X hf hv hn hS
          match i_, hi_ with
          | 0, _ => exact stepV rfl rfl (execMvB rfl ((hf 5 (by decide)).trans t5)) ⟨s, ⟨_, rfl, rfl⟩, hS, fun _ _ => rfl⟩
          | 1, _ => exact stepV rfl rfl (execMvB rfl ((hf 7 (by decide)).trans t7)) ⟨s, ⟨_, rfl, rfl⟩, hS, fun _ _ => rfl⟩
          | 2, _ =>
            refine stepC rfl rfl (execCall2 Try.func17 (by kernel_rfl) (by kernel_rfl) rfl (hv 0 (by decide) _ rfl _ rfl) (hv 1 (by decide) _ rfl _ rfl)) (rpattern sf (fun _ => 0) J m _ _ X (lent_in ((FM7.on hS).rows 0 (by omega)) hf0) (by have h1_ := zl_le (paE sf J df m) m; have h2_ := zl_le (drE sf J cf n vf k) n; omega) (lent_z ((FM7.on hS).rows 1 (by omega)) ) (by have h1_ := zl_le (paE sf J df m) m; have h2_ := zl_le (drE sf J cf n vf k) n; omega)) fun e w' hh => ?_
            obtain ⟨r0_, r1_, he, hk, hb⟩ := hh
            refine ⟨_, he, (r0_, r1_), ⟨_, rfl, rfl⟩, ⟨(hS).trans ((hb).mono (hS).size), own_ints (hk.rows 0 (by omega)) (pc_fits (by have h1_ := zl_le (paE sf J df m) m; have h2_ := zl_le (drE sf J cf n vf k) n; omega)), own_ints (hk.rows 1 (by omega)) (po_fits ((lent_z ((FM7.on hS).rows 1 (by omega)) )).fits)⟩, fun i hi => ?_⟩
            match i, hi with
            | 0, _ => rfl
            | 1, _ => rfl
            | n_ + 2, h_ => omega
          | 3, _ => exact stepV rfl rfl (execMvB rfl (hv 2 (by decide) _ rfl _ rfl)) ⟨s, ⟨_, rfl, rfl⟩, hS, fun _ _ => rfl⟩
          | 4, _ => exact stepV rfl rfl (execExtT rfl (hv 3 (by decide) _ rfl _ rfl) rfl) ⟨s, ⟨_, rfl, rfl⟩, hS, fun _ _ => rfl⟩
          | 5, _ => exact stepV rfl rfl (execExtT rfl (hv 3 (by decide) _ rfl _ rfl) rfl) ⟨s, ⟨_, rfl, rfl⟩, hS, fun _ _ => rfl⟩
          | 6, _ => exact stepV rfl rfl (execExtT rfl (hv 3 (by decide) _ rfl _ rfl) rfl) ⟨s, ⟨_, rfl, rfl⟩, hS, fun _ _ => rfl⟩
          | 7, _ => exact stepV rfl rfl (execAsgB rfl (hv 4 (by decide) _ rfl _ rfl)) ⟨s, ⟨_, rfl, rfl⟩, hS, fun _ _ => rfl⟩
          | 8, _ => exact stepV rfl rfl (execAsgB rfl (hv 5 (by decide) _ rfl _ rfl)) ⟨s, ⟨_, rfl, rfl⟩, hS, fun _ _ => rfl⟩
          | 9, _ => exact stepV rfl rfl (execAsgB rfl (hv 6 (by decide) _ rfl _ rfl)) ⟨s, ⟨_, rfl, rfl⟩, hS, fun _ _ => rfl⟩
          | k_ + 10, h_ => exact absurd h_ (by simp)
        rintro ⟨a219, o219⟩ a X32 h1 h2 h3 h4 hS
        replace hS : Below X28.heap.size X28 X32 ∧ (SliceI X32 a219 (zl (paE sf J (fun _ => 0) m) m) (pcF sf J (fun _ => 0))) ∧ (SliceI X32 o219 (zl (paE sf J (fun _ => 0) m) m) (poF sf J (fun _ => 0) m)) := hS
        obtain ⟨bX, Fa219, Fo219⟩ := hS
        replace t32 := (h3 32 (by decide)).trans t32
        replace t33 := (h3 33 (by decide)).trans t33
        replace t34 := (h3 34 (by decide)).trans t34
        replace t5 := (h3 5 (by decide)).trans t5
        replace t7 := (h3 7 (by decide)).trans t7
        replace t9 := (h3 9 (by decide)).trans t9
        replace t11 := (h3 11 (by decide)).trans t11
        have t13 : a.eval (.tmp 13) = a219 := h4 7 _ rfl _ rfl
        have t14 : a.eval (.tmp 14) = o219 := h4 8 _ rfl _ rfl
        have t15 : a.eval (.tmp 15) = .int .i64 ((paE sf J (fun _ => 0) m : Nat) : Int) := h4 9 _ rfl _ rfl
        replace FM7 := (FM7.on bX)
        have ZX32 := bX.size
        replace BW := BW.trans (bX.mono BW.size)
        clear bX
        replace A := (⟨h1, h2.trans A.2⟩ : a.tmps.size = 271 ∧ a.defers = [])
        clear h1 h2 h3 h4
        refine wp_seq ?_
        refine wp_region_sq (σ := Value) 271 [(0, 224), (1, 225), (2, 226), (3, 227), (4, 223), (5, 228), (6, 229), (7, 16), (8, 17)] (fun j_ s X => match j_ with | 0 => Below X32.heap.size X32 X | 1 => Below X32.heap.size X32 X | 2 => Below X32.heap.size X32 X | 3 => Below X32.heap.size X32 X | 4 => Below X32.heap.size X32 X ∧ (SliceI X s (zl (drE sf J cf n (fun _ => 0) k) n) (dwF sf cf (fun _ => 0))) | 5 => Below X32.heap.size X32 X ∧ (SliceI X s (zl (drE sf J cf n (fun _ => 0) k) n) (dwF sf cf (fun _ => 0))) | 6 => Below X32.heap.size X32 X ∧ (SliceI X s (zl (drE sf J cf n (fun _ => 0) k) n) (dwF sf cf (fun _ => 0))) | 7 => Below X32.heap.size X32 X ∧ (SliceI X s (zl (drE sf J cf n (fun _ => 0) k) n) (dwF sf cf (fun _ => 0))) | 8 => Below X32.heap.size X32 X ∧ (SliceI X s (zl (drE sf J cf n (fun _ => 0) k) n) (dwF sf cf (fun _ => 0))) | _ => Below X32.heap.size X32 X ∧ (SliceI X s (zl (drE sf J cf n (fun _ => 0) k) n) (dwF sf cf (fun _ => 0)))) (fun s => fun i_ => match i_ with | 0 => .slice (some ⟨g41, 0, none⟩) J c41 | 1 => .slice (some ⟨g53, 0, none⟩) n c53 | 2 => .slice (some ⟨g59, 0, none⟩) k c59 | 3 => .tuple #[s, .int .i64 ((drE sf J cf n (fun _ => 0) k : Nat) : Int)] | 4 => .tuple #[s, .int .i64 ((drE sf J cf n (fun _ => 0) k : Nat) : Int)] | 5 => s | 6 => .int .i64 ((drE sf J cf n (fun _ => 0) k : Nat) : Int) | 7 => s | 8 => .int .i64 ((drE sf J cf n (fun _ => 0) k : Nat) : Int) | _ => undef) undef A.1 (by kernel_rfl) (by decide) (by decide) (Below.refl _ _) ?_ ?_
        · intro i_ hi_ s a X hf hv hn hS
          match i_, hi_ with
          | 0, _ => exact stepV rfl rfl (execMvB rfl ((hf 5 (by decide)).trans t5)) ⟨s, ⟨_, rfl, rfl⟩, hS, fun _ _ => rfl⟩
          | 1, _ => exact stepV rfl rfl (execMvB rfl ((hf 9 (by decide)).trans t9)) ⟨s, ⟨_, rfl, rfl⟩, hS, fun _ _ => rfl⟩
          | 2, _ => exact stepV rfl rfl (execMvB rfl ((hf 11 (by decide)).trans t11)) ⟨s, ⟨_, rfl, rfl⟩, hS, fun _ _ => rfl⟩
          | 3, _ =>
            refine stepC rfl rfl (execCall3 Try.func18 (by kernel_rfl) (by kernel_rfl) rfl (hv 0 (by decide) _ rfl _ rfl) (hv 1 (by decide) _ rfl _ rfl) (hv 2 (by decide) _ rfl _ rfl)) (rdraws12 sf cf (fun _ => 0) J n k _ _ _ X (lent_in ((FM7.on hS).rows 0 (by omega)) hf0) (by have h1_ := zl_le (paE sf J df m) m; have h2_ := zl_le (drE sf J cf n vf k) n; omega) (lent_in ((FM7.on hS).rows 2 (by omega)) hf2) (by have h1_ := zl_le (paE sf J df m) m; have h2_ := zl_le (drE sf J cf n vf k) n; omega) (lent_z ((FM7.on hS).rows 3 (by omega)))) fun e w' hh => ?_
            obtain ⟨r0_, he, hk, hb⟩ := hh
            refine ⟨_, he, r0_, ⟨_, rfl, rfl⟩, ⟨(hS).trans ((hb).mono (hS).size), own_ints hk (dw_fits (by have h1_ := zl_le (paE sf J df m) m; have h2_ := zl_le (drE sf J cf n vf k) n; omega))⟩, fun i hi => ?_⟩
            match i, hi with
            | 0, _ => rfl
            | 1, _ => rfl
            | 2, _ => rfl
            | n_ + 3, h_ => omega
          | 4, _ => exact stepV rfl rfl (execMvB rfl (hv 3 (by decide) _ rfl _ rfl)) ⟨s, ⟨_, rfl, rfl⟩, hS, fun _ _ => rfl⟩
          | 5, _ => exact stepV rfl rfl (execExtT rfl (hv 4 (by decide) _ rfl _ rfl) rfl) ⟨s, ⟨_, rfl, rfl⟩, hS, fun _ _ => rfl⟩
          | 6, _ => exact stepV rfl rfl (execExtT rfl (hv 4 (by decide) _ rfl _ rfl) rfl) ⟨s, ⟨_, rfl, rfl⟩, hS, fun _ _ => rfl⟩
          | 7, _ => exact stepV rfl rfl (execAsgB rfl (hv 5 (by decide) _ rfl _ rfl)) ⟨s, ⟨_, rfl, rfl⟩, hS, fun _ _ => rfl⟩
          | 8, _ => exact stepV rfl rfl (execAsgB rfl (hv 6 (by decide) _ rfl _ rfl)) ⟨s, ⟨_, rfl, rfl⟩, hS, fun _ _ => rfl⟩
          | k_ + 9, h_ => exact absurd h_ (by simp)
        rintro d227 a X33 h1 h2 h3 h4 hS
        replace hS : Below X32.heap.size X32 X33 ∧ (SliceI X33 d227 (zl (drE sf J cf n (fun _ => 0) k) n) (dwF sf cf (fun _ => 0))) := hS
        obtain ⟨bX, Fd227⟩ := hS
        replace t32 := (h3 32 (by decide)).trans t32
        replace t33 := (h3 33 (by decide)).trans t33
        replace t34 := (h3 34 (by decide)).trans t34
        replace t5 := (h3 5 (by decide)).trans t5
        replace t7 := (h3 7 (by decide)).trans t7
        replace t9 := (h3 9 (by decide)).trans t9
        replace t11 := (h3 11 (by decide)).trans t11
        replace t13 := (h3 13 (by decide)).trans t13
        replace t14 := (h3 14 (by decide)).trans t14
        replace t15 := (h3 15 (by decide)).trans t15
        have t16 : a.eval (.tmp 16) = d227 := h4 7 _ rfl _ rfl
        have t17 : a.eval (.tmp 17) = .int .i64 ((drE sf J cf n (fun _ => 0) k : Nat) : Int) := h4 8 _ rfl _ rfl
        replace FM7 := (FM7.on bX)
        replace Fa219 := (Fa219.on bX)
        replace Fo219 := (Fo219.on bX)
        have ZX33 := bX.size
        replace BW := BW.trans (bX.mono BW.size)
        clear bX
        replace A := (⟨h1, h2.trans A.2⟩ : a.tmps.size = 271 ∧ a.defers = [])
        clear h1 h2 h3 h4
        refine wp_seq ?_
        refine wp_region_sq (σ := Value × Value) 271 [(0, 231), (1, 232), (2, 233), (3, 230), (4, 234), (5, 235), (6, 236), (7, 18), (8, 19), (9, 20)] (fun j_ s X => match j_ with | 0 => Below X33.heap.size X33 X | 1 => Below X33.heap.size X33 X | 2 => Below X33.heap.size X33 X | 3 => Below X33.heap.size X33 X ∧ (SliceI X s.1 (zl (paE sf J (fun _ => 0) m) m) (pcF sf J (fun _ => 0))) ∧ (SliceI X s.2 (zl (paE sf J (fun _ => 0) m) m) (poF sf J (fun _ => 0) m)) | 4 => Below X33.heap.size X33 X ∧ (SliceI X s.1 (zl (paE sf J (fun _ => 0) m) m) (pcF sf J (fun _ => 0))) ∧ (SliceI X s.2 (zl (paE sf J (fun _ => 0) m) m) (poF sf J (fun _ => 0) m)) | 5 => Below X33.heap.size X33 X ∧ (SliceI X s.1 (zl (paE sf J (fun _ => 0) m) m) (pcF sf J (fun _ => 0))) ∧ (SliceI X s.2 (zl (paE sf J (fun _ => 0) m) m) (poF sf J (fun _ => 0) m)) | 6 => Below X33.heap.size X33 X ∧ (SliceI X s.1 (zl (paE sf J (fun _ => 0) m) m) (pcF sf J (fun _ => 0))) ∧ (SliceI X s.2 (zl (paE sf J (fun _ => 0) m) m) (poF sf J (fun _ => 0) m)) | 7 => Below X33.heap.size X33 X ∧ (SliceI X s.1 (zl (paE sf J (fun _ => 0) m) m) (pcF sf J (fun _ => 0))) ∧ (SliceI X s.2 (zl (paE sf J (fun _ => 0) m) m) (poF sf J (fun _ => 0) m)) | 8 => Below X33.heap.size X33 X ∧ (SliceI X s.1 (zl (paE sf J (fun _ => 0) m) m) (pcF sf J (fun _ => 0))) ∧ (SliceI X s.2 (zl (paE sf J (fun _ => 0) m) m) (poF sf J (fun _ => 0) m)) | 9 => Below X33.heap.size X33 X ∧ (SliceI X s.1 (zl (paE sf J (fun _ => 0) m) m) (pcF sf J (fun _ => 0))) ∧ (SliceI X s.2 (zl (paE sf J (fun _ => 0) m) m) (poF sf J (fun _ => 0) m)) | _ => Below X33.heap.size X33 X ∧ (SliceI X s.1 (zl (paE sf J (fun _ => 0) m) m) (pcF sf J (fun _ => 0))) ∧ (SliceI X s.2 (zl (paE sf J (fun _ => 0) m) m) (poF sf J (fun _ => 0) m))) (fun s => fun i_ => match i_ with | 0 => .slice (some ⟨g41, 0, none⟩) J c41 | 1 => .slice (some ⟨g47, 0, none⟩) m c47 | 2 => .tuple #[s.1, s.2, .int .i64 ((paE sf J (fun _ => 0) m : Nat) : Int)] | 3 => .tuple #[s.1, s.2, .int .i64 ((paE sf J (fun _ => 0) m : Nat) : Int)] | 4 => s.1 | 5 => s.2 | 6 => .int .i64 ((paE sf J (fun _ => 0) m : Nat) : Int) | 7 => s.1 | 8 => s.2 | 9 => .int .i64 ((paE sf J (fun _ => 0) m : Nat) : Int) | _ => undef) (undef, undef) A.1 (by kernel_rfl) (by decide) (by decide) (Below.refl _ _) ?_ ?_
        · intro i_ hi_ s a X hf hv hn hS
          match i_, hi_ with
          | 0, _ => exact stepV rfl rfl (execMvB rfl ((hf 5 (by decide)).trans t5)) ⟨s, ⟨_, rfl, rfl⟩, hS, fun _ _ => rfl⟩
          | 1, _ => exact stepV rfl rfl (execMvB rfl ((hf 7 (by decide)).trans t7)) ⟨s, ⟨_, rfl, rfl⟩, hS, fun _ _ => rfl⟩
          | 2, _ =>
            refine stepC rfl rfl (execCall2 Try.func19 (by kernel_rfl) (by kernel_rfl) rfl (hv 0 (by decide) _ rfl _ rfl) (hv 1 (by decide) _ rfl _ rfl)) (ppattern sf (fun _ => 0) J m _ _ X (lent_in ((FM7.on hS).rows 0 (by omega)) hf0) (by have h1_ := zl_le (paE sf J df m) m; have h2_ := zl_le (drE sf J cf n vf k) n; omega) (lent_z ((FM7.on hS).rows 1 (by omega))) (by have h1_ := zl_le (paE sf J df m) m; have h2_ := zl_le (drE sf J cf n vf k) n; omega)) fun e w' hh => ?_
            obtain ⟨r0_, r1_, he, hk, hb⟩ := hh
            refine ⟨_, he, (r0_, r1_), ⟨_, rfl, rfl⟩, ⟨(hS).trans ((hb).mono (hS).size), own_ints (hk.rows 0 (by omega)) (pc_fits (by have h1_ := zl_le (paE sf J df m) m; have h2_ := zl_le (drE sf J cf n vf k) n; omega)), own_ints (hk.rows 1 (by omega)) (po_fits ((lent_z ((FM7.on hS).rows 1 (by omega)))).fits)⟩, fun i hi => ?_⟩
            match i, hi with
            | 0, _ => rfl
            | 1, _ => rfl
            | n_ + 2, h_ => omega
          | 3, _ => exact stepV rfl rfl (execMvB rfl (hv 2 (by decide) _ rfl _ rfl)) ⟨s, ⟨_, rfl, rfl⟩, hS, fun _ _ => rfl⟩
          | 4, _ => exact stepV rfl rfl (execExtT rfl (hv 3 (by decide) _ rfl _ rfl) rfl) ⟨s, ⟨_, rfl, rfl⟩, hS, fun _ _ => rfl⟩
          | 5, _ => exact stepV rfl rfl (execExtT rfl (hv 3 (by decide) _ rfl _ rfl) rfl) ⟨s, ⟨_, rfl, rfl⟩, hS, fun _ _ => rfl⟩
          | 6, _ => exact stepV rfl rfl (execExtT rfl (hv 3 (by decide) _ rfl _ rfl) rfl) ⟨s, ⟨_, rfl, rfl⟩, hS, fun _ _ => rfl⟩
          | 7, _ => exact stepV rfl rfl (execAsgB rfl (hv 4 (by decide) _ rfl _ rfl)) ⟨s, ⟨_, rfl, rfl⟩, hS, fun _ _ => rfl⟩
          | 8, _ => exact stepV rfl rfl (execAsgB rfl (hv 5 (by decide) _ rfl _ rfl)) ⟨s, ⟨_, rfl, rfl⟩, hS, fun _ _ => rfl⟩
          | 9, _ => exact stepV rfl rfl (execAsgB rfl (hv 6 (by decide) _ rfl _ rfl)) ⟨s, ⟨_, rfl, rfl⟩, hS, fun _ _ => rfl⟩
          | k_ + 10, h_ => exact absurd h_ (by simp)
        rintro ⟨a233, o233⟩ a X34 h1 h2 h3 h4 hS
        replace hS : Below X33.heap.size X33 X34 ∧ (SliceI X34 a233 (zl (paE sf J (fun _ => 0) m) m) (pcF sf J (fun _ => 0))) ∧ (SliceI X34 o233 (zl (paE sf J (fun _ => 0) m) m) (poF sf J (fun _ => 0) m)) := hS
        obtain ⟨bX, Fa233, Fo233⟩ := hS
        replace t32 := (h3 32 (by decide)).trans t32
        replace t33 := (h3 33 (by decide)).trans t33
        replace t34 := (h3 34 (by decide)).trans t34
        replace t5 := (h3 5 (by decide)).trans t5
        replace t7 := (h3 7 (by decide)).trans t7
        replace t9 := (h3 9 (by decide)).trans t9
        replace t11 := (h3 11 (by decide)).trans t11
        replace t13 := (h3 13 (by decide)).trans t13
        replace t14 := (h3 14 (by decide)).trans t14
        replace t15 := (h3 15 (by decide)).trans t15
        replace t16 := (h3 16 (by decide)).trans t16
        replace t17 := (h3 17 (by decide)).trans t17
        have t18 : a.eval (.tmp 18) = a233 := h4 7 _ rfl _ rfl
        have t19 : a.eval (.tmp 19) = o233 := h4 8 _ rfl _ rfl
        have t20 : a.eval (.tmp 20) = .int .i64 ((paE sf J (fun _ => 0) m : Nat) : Int) := h4 9 _ rfl _ rfl
        replace FM7 := (FM7.on bX)
        replace Fa219 := (Fa219.on bX)
        replace Fo219 := (Fo219.on bX)
        replace Fd227 := (Fd227.on bX)
        have ZX34 := bX.size
        replace BW := BW.trans (bX.mono BW.size)
        clear bX
        replace A := (⟨h1, h2.trans A.2⟩ : a.tmps.size = 271 ∧ a.defers = [])
        clear h1 h2 h3 h4
        refine wp_seq ?_
        refine wp_region_sq (σ := Value) 271 [(0, 238), (1, 239), (2, 240), (3, 241), (4, 237), (5, 242), (6, 243), (7, 24), (8, 25)] (fun j_ s X => match j_ with | 0 => Below X34.heap.size X34 X | 1 => Below X34.heap.size X34 X | 2 => Below X34.heap.size X34 X | 3 => Below X34.heap.size X34 X | 4 => Below X34.heap.size X34 X ∧ (SliceI X s (zl (drE sf J cf n (fun _ => 0) k) n) (dwF sf cf (fun _ => 0))) | 5 => Below X34.heap.size X34 X ∧ (SliceI X s (zl (drE sf J cf n (fun _ => 0) k) n) (dwF sf cf (fun _ => 0))) | 6 => Below X34.heap.size X34 X ∧ (SliceI X s (zl (drE sf J cf n (fun _ => 0) k) n) (dwF sf cf (fun _ => 0))) | 7 => Below X34.heap.size X34 X ∧ (SliceI X s (zl (drE sf J cf n (fun _ => 0) k) n) (dwF sf cf (fun _ => 0))) | 8 => Below X34.heap.size X34 X ∧ (SliceI X s (zl (drE sf J cf n (fun _ => 0) k) n) (dwF sf cf (fun _ => 0))) | _ => Below X34.heap.size X34 X ∧ (SliceI X s (zl (drE sf J cf n (fun _ => 0) k) n) (dwF sf cf (fun _ => 0)))) (fun s => fun i_ => match i_ with | 0 => .slice (some ⟨g41, 0, none⟩) J c41 | 1 => .slice (some ⟨g53, 0, none⟩) n c53 | 2 => .slice (some ⟨g59, 0, none⟩) k c59 | 3 => .tuple #[s, .int .i64 ((drE sf J cf n (fun _ => 0) k : Nat) : Int)] | 4 => .tuple #[s, .int .i64 ((drE sf J cf n (fun _ => 0) k : Nat) : Int)] | 5 => s | 6 => .int .i64 ((drE sf J cf n (fun _ => 0) k : Nat) : Int) | 7 => s | 8 => .int .i64 ((drE sf J cf n (fun _ => 0) k : Nat) : Int) | _ => undef) undef A.1 (by kernel_rfl) (by decide) (by decide) (Below.refl _ _) ?_ ?_
        · intro i_ hi_ s a X hf hv hn hS
          match i_, hi_ with
          | 0, _ => exact stepV rfl rfl (execMvB rfl ((hf 5 (by decide)).trans t5)) ⟨s, ⟨_, rfl, rfl⟩, hS, fun _ _ => rfl⟩
          | 1, _ => exact stepV rfl rfl (execMvB rfl ((hf 9 (by decide)).trans t9)) ⟨s, ⟨_, rfl, rfl⟩, hS, fun _ _ => rfl⟩
          | 2, _ => exact stepV rfl rfl (execMvB rfl ((hf 11 (by decide)).trans t11)) ⟨s, ⟨_, rfl, rfl⟩, hS, fun _ _ => rfl⟩
          | 3, _ =>
            refine stepC rfl rfl (execCall3 Try.func20 (by kernel_rfl) (by kernel_rfl) rfl (hv 0 (by decide) _ rfl _ rfl) (hv 1 (by decide) _ rfl _ rfl) (hv 2 (by decide) _ rfl _ rfl)) (pdraws12 sf cf (fun _ => 0) J n k _ _ _ X (lent_in ((FM7.on hS).rows 0 (by omega)) hf0) (by have h1_ := zl_le (paE sf J df m) m; have h2_ := zl_le (drE sf J cf n vf k) n; omega) (lent_in ((FM7.on hS).rows 2 (by omega)) hf2) (by have h1_ := zl_le (paE sf J df m) m; have h2_ := zl_le (drE sf J cf n vf k) n; omega) (lent_z ((FM7.on hS).rows 3 (by omega)))) fun e w' hh => ?_
            obtain ⟨r0_, he, hk, hb⟩ := hh
            refine ⟨_, he, r0_, ⟨_, rfl, rfl⟩, ⟨(hS).trans ((hb).mono (hS).size), own_ints hk (dw_fits (by have h1_ := zl_le (paE sf J df m) m; have h2_ := zl_le (drE sf J cf n vf k) n; omega))⟩, fun i hi => ?_⟩
            match i, hi with
            | 0, _ => rfl
            | 1, _ => rfl
            | 2, _ => rfl
            | n_ + 3, h_ => omega
          | 4, _ => exact stepV rfl rfl (execMvB rfl (hv 3 (by decide) _ rfl _ rfl)) ⟨s, ⟨_, rfl, rfl⟩, hS, fun _ _ => rfl⟩
          | 5, _ => exact stepV rfl rfl (execExtT rfl (hv 4 (by decide) _ rfl _ rfl) rfl) ⟨s, ⟨_, rfl, rfl⟩, hS, fun _ _ => rfl⟩
          | 6, _ => exact stepV rfl rfl (execExtT rfl (hv 4 (by decide) _ rfl _ rfl) rfl) ⟨s, ⟨_, rfl, rfl⟩, hS, fun _ _ => rfl⟩
          | 7, _ => exact stepV rfl rfl (execAsgB rfl (hv 5 (by decide) _ rfl _ rfl)) ⟨s, ⟨_, rfl, rfl⟩, hS, fun _ _ => rfl⟩
          | 8, _ => exact stepV rfl rfl (execAsgB rfl (hv 6 (by decide) _ rfl _ rfl)) ⟨s, ⟨_, rfl, rfl⟩, hS, fun _ _ => rfl⟩
          | k_ + 9, h_ => exact absurd h_ (by simp)
        rintro d241 a X35 h1 h2 h3 h4 hS
        replace hS : Below X34.heap.size X34 X35 ∧ (SliceI X35 d241 (zl (drE sf J cf n (fun _ => 0) k) n) (dwF sf cf (fun _ => 0))) := hS
        obtain ⟨bX, Fd241⟩ := hS
        replace t32 := (h3 32 (by decide)).trans t32
        replace t33 := (h3 33 (by decide)).trans t33
        replace t34 := (h3 34 (by decide)).trans t34
        replace t13 := (h3 13 (by decide)).trans t13
        replace t14 := (h3 14 (by decide)).trans t14
        replace t15 := (h3 15 (by decide)).trans t15
        replace t16 := (h3 16 (by decide)).trans t16
        replace t17 := (h3 17 (by decide)).trans t17
        replace t18 := (h3 18 (by decide)).trans t18
        replace t19 := (h3 19 (by decide)).trans t19
        replace t20 := (h3 20 (by decide)).trans t20
        have t24 : a.eval (.tmp 24) = d241 := h4 7 _ rfl _ rfl
        have t25 : a.eval (.tmp 25) = .int .i64 ((drE sf J cf n (fun _ => 0) k : Nat) : Int) := h4 8 _ rfl _ rfl
        replace FM7 := (FM7.on bX)
        replace Fa219 := (Fa219.on bX)
        replace Fo219 := (Fo219.on bX)
        replace Fd227 := (Fd227.on bX)
        replace Fa233 := (Fa233.on bX)
        replace Fo233 := (Fo233.on bX)
        have ZX35 := bX.size
        replace BW := BW.trans (bX.mono BW.size)
        clear bX
        replace A := (⟨h1, h2.trans A.2⟩ : a.tmps.size = 271 ∧ a.defers = [])
        clear h1 h2 h3 h4
        clear t5 t7 t9 t11
        refine wp_seq ?_
        refine wp_region_sq (σ := Unit) 271 [(0, 244), (1, 245), (2, 246), (3, 247), (4, 248), (5, 249), (6, 250), (7, 251), (8, 252), (9, 253), (10, 254), (11, 255), (12, 256), (13, 257), (14, 258), (15, 259), (16, 260), (17, 261), (18, 262), (19, 263), (20, 264), (21, 265), (22, 266), (23, 267), (24, 268), (25, 269)] (fun j_ s X => match j_ with | 0 => Below X35.heap.size X35 X | 1 => Below X35.heap.size X35 X | 2 => Below X35.heap.size X35 X | 3 => Below X35.heap.size X35 X | 4 => Below X35.heap.size X35 X | 5 => Below X35.heap.size X35 X | 6 => Below X35.heap.size X35 X | 7 => Below X35.heap.size X35 X | 8 => Below X35.heap.size X35 X | 9 => Below X35.heap.size X35 X | 10 => Below X35.heap.size X35 X | 11 => Below X35.heap.size X35 X | 12 => Below X35.heap.size X35 X | 13 => Below X35.heap.size X35 X | 14 => Below X35.heap.size X35 X | 15 => Below X35.heap.size X35 X | 16 => Below X35.heap.size X35 X | 17 => Below X35.heap.size X35 X | 18 => Below X35.heap.size X35 X | 19 => Below X35.heap.size X35 X | 20 => Below X35.heap.size X35 X | 21 => Below X35.heap.size X35 X | 22 => Below X35.heap.size X35 X | 23 => Below X35.heap.size X35 X | 24 => Below X35.heap.size X35 X | 25 => Below X35.heap.size X35 X | _ => Below X35.heap.size X35 X) (fun s => fun i_ => match i_ with | 0 => .int .i64 ((paE sf J (fun _ => 0) m : Nat) : Int) | 1 => .int .i64 ((paE sf J (fun _ => 0) m : Nat) : Int) | 2 => .bool false | 3 => .bool false | 4 => .int .i64 ((drE sf J cf n (fun _ => 0) k : Nat) : Int) | 5 => .int .i64 ((drE sf J cf n (fun _ => 0) k : Nat) : Int) | 6 => .bool false | 7 => .bool false | 8 => .bool false | 9 => a233 | 10 => a219 | 11 => .bool true | 12 => .bool false | 13 => .bool false | 14 => .bool false | 15 => o233 | 16 => o219 | 17 => .bool true | 18 => .bool false | 19 => .bool false | 20 => .bool false | 21 => d241 | 22 => d227 | 23 => .bool true | 24 => .bool false | 25 => .bool false | _ => undef) () A.1 (by kernel_rfl) (by decide) (by decide) (Below.refl _ _) ?_ ?_
        · intro i_ hi_ s a X hf hv hn hS
          match i_, hi_ with
          | 0, _ => exact stepV rfl rfl (execMvB rfl ((hf 20 (by decide)).trans t20)) ⟨s, ⟨_, rfl, rfl⟩, hS, fun _ _ => rfl⟩
          | 1, _ => exact stepV rfl rfl (execMvB rfl ((hf 15 (by decide)).trans t15)) ⟨s, ⟨_, rfl, rfl⟩, hS, fun _ _ => rfl⟩
          | 2, _ => exact stepV rfl rfl (execDec (execNeN (p := paE sf J (fun _ => 0) m) (q := paE sf J (fun _ => 0) m) rfl (hv 0 (by decide) _ rfl _ rfl) (hv 1 (by decide) _ rfl _ rfl)) (decide_eq_false (by omega))) ⟨s, ⟨_, rfl, rfl⟩, hS, fun _ _ => rfl⟩
          | 3, _ => exact stepV rfl rfl (execMvB rfl (hv 2 (by decide) _ rfl _ rfl)) ⟨s, ⟨_, rfl, rfl⟩, hS, fun _ _ => rfl⟩
          | 4, _ => exact stepV rfl (wantedOf rfl (yieldedAt rfl rfl (show a.eval (.tmp 247) = .bool false from (hv 3 (by decide) _ rfl _ rfl)))) (execMvB rfl ((hf 25 (by decide)).trans t25)) ⟨s, ⟨_, rfl, rfl⟩, hS, fun _ _ => rfl⟩
          | 5, _ => exact stepV rfl (wantedOf rfl (yieldedAt rfl rfl (show a.eval (.tmp 247) = .bool false from (hv 3 (by decide) _ rfl _ rfl)))) (execMvB rfl ((hf 17 (by decide)).trans t17)) ⟨s, ⟨_, rfl, rfl⟩, hS, fun _ _ => rfl⟩
          | 6, _ => exact stepV rfl (wantedOf rfl (yieldedAt rfl rfl (show a.eval (.tmp 247) = .bool false from (hv 3 (by decide) _ rfl _ rfl)))) (execDec (execNeN (p := drE sf J cf n (fun _ => 0) k) (q := drE sf J cf n (fun _ => 0) k) rfl (hv 4 (by decide) _ rfl _ rfl) (hv 5 (by decide) _ rfl _ rfl)) (decide_eq_false (by omega))) ⟨s, ⟨_, rfl, rfl⟩, hS, fun _ _ => rfl⟩
          | 7, _ => exact stepV rfl rfl (execPickF rfl (hv 3 (by decide) _ rfl _ rfl) (hv 6 (by decide) _ rfl _ rfl)) ⟨s, ⟨_, rfl, rfl⟩, hS, fun _ _ => rfl⟩
          | 8, _ => exact stepV rfl rfl (execMvB rfl (hv 7 (by decide) _ rfl _ rfl)) ⟨s, ⟨_, rfl, rfl⟩, hS, fun _ _ => rfl⟩
          | 9, _ => exact stepV rfl (wantedOf rfl (yieldedAt rfl rfl (show a.eval (.tmp 252) = .bool false from (hv 8 (by decide) _ rfl _ rfl)))) (execMvB rfl ((hf 18 (by decide)).trans t18)) ⟨s, ⟨_, rfl, rfl⟩, hS, fun _ _ => rfl⟩
          | 10, _ => exact stepV rfl (wantedOf rfl (yieldedAt rfl rfl (show a.eval (.tmp 252) = .bool false from (hv 8 (by decide) _ rfl _ rfl)))) (execMvB rfl ((hf 13 (by decide)).trans t13)) ⟨s, ⟨_, rfl, rfl⟩, hS, fun _ _ => rfl⟩
          | 11, _ => exact stepC rfl (wantedOf rfl (yieldedAt rfl rfl (show a.eval (.tmp 252) = .bool false from (hv 8 (by decide) _ rfl _ rfl)))) (execCall2 Try.func14 (by kernel_rfl) (by kernel_rfl) rfl (hv 9 (by decide) _ rfl _ rfl) (hv 10 (by decide) _ rfl _ rfl)) (same_t _ _ (zl (paE sf J (fun _ => 0) m) m) _ _ X (Fa233.on hS) (Fa219.on hS) (fun _ _ => rfl) (by have h1_ := zl_le (paE sf J (fun _ => 0) m) m; have h2_ := zl_le (drE sf J cf n (fun _ => 0) k) n; omega)) fun e w' hh => ⟨_, hh.1, s, ⟨_, rfl, rfl⟩, (hS).trans ((hh.2).mono (hS).size), fun _ _ => rfl⟩
          | 12, _ => exact stepV rfl (wantedOf rfl (yieldedAt rfl rfl (show a.eval (.tmp 252) = .bool false from (hv 8 (by decide) _ rfl _ rfl)))) (execNot8 rfl (hv 11 (by decide) _ rfl _ rfl)) ⟨s, ⟨_, rfl, rfl⟩, hS, fun _ _ => rfl⟩
          | 13, _ => exact stepV rfl rfl (execPickF rfl (hv 8 (by decide) _ rfl _ rfl) (hv 12 (by decide) _ rfl _ rfl)) ⟨s, ⟨_, rfl, rfl⟩, hS, fun _ _ => rfl⟩
          | 14, _ => exact stepV rfl rfl (execMvB rfl (hv 13 (by decide) _ rfl _ rfl)) ⟨s, ⟨_, rfl, rfl⟩, hS, fun _ _ => rfl⟩
          | 15, _ => exact stepV rfl (wantedOf rfl (yieldedAt rfl rfl (show a.eval (.tmp 258) = .bool false from (hv 14 (by decide) _ rfl _ rfl)))) (execMvB rfl ((hf 19 (by decide)).trans t19)) ⟨s, ⟨_, rfl, rfl⟩, hS, fun _ _ => rfl⟩
          | 16, _ => exact stepV rfl (wantedOf rfl (yieldedAt rfl rfl (show a.eval (.tmp 258) = .bool false from (hv 14 (by decide) _ rfl _ rfl)))) (execMvB rfl ((hf 14 (by decide)).trans t14)) ⟨s, ⟨_, rfl, rfl⟩, hS, fun _ _ => rfl⟩
          | 17, _ => exact stepC rfl (wantedOf rfl (yieldedAt rfl rfl (show a.eval (.tmp 258) = .bool false from (hv 14 (by decide) _ rfl _ rfl)))) (execCall2 Try.func14 (by kernel_rfl) (by kernel_rfl) rfl (hv 15 (by decide) _ rfl _ rfl) (hv 16 (by decide) _ rfl _ rfl)) (same_t _ _ (zl (paE sf J (fun _ => 0) m) m) _ _ X (Fo233.on hS) (Fo219.on hS) (fun _ _ => rfl) (by have h1_ := zl_le (paE sf J (fun _ => 0) m) m; have h2_ := zl_le (drE sf J cf n (fun _ => 0) k) n; omega)) fun e w' hh => ⟨_, hh.1, s, ⟨_, rfl, rfl⟩, (hS).trans ((hh.2).mono (hS).size), fun _ _ => rfl⟩
          | 18, _ => exact stepV rfl (wantedOf rfl (yieldedAt rfl rfl (show a.eval (.tmp 258) = .bool false from (hv 14 (by decide) _ rfl _ rfl)))) (execNot8 rfl (hv 17 (by decide) _ rfl _ rfl)) ⟨s, ⟨_, rfl, rfl⟩, hS, fun _ _ => rfl⟩
          | 19, _ => exact stepV rfl rfl (execPickF rfl (hv 14 (by decide) _ rfl _ rfl) (hv 18 (by decide) _ rfl _ rfl)) ⟨s, ⟨_, rfl, rfl⟩, hS, fun _ _ => rfl⟩
          | 20, _ => exact stepV rfl rfl (execMvB rfl (hv 19 (by decide) _ rfl _ rfl)) ⟨s, ⟨_, rfl, rfl⟩, hS, fun _ _ => rfl⟩
          | 21, _ => exact stepV rfl (wantedOf rfl (yieldedAt rfl rfl (show a.eval (.tmp 264) = .bool false from (hv 20 (by decide) _ rfl _ rfl)))) (execMvB rfl ((hf 24 (by decide)).trans t24)) ⟨s, ⟨_, rfl, rfl⟩, hS, fun _ _ => rfl⟩
          | 22, _ => exact stepV rfl (wantedOf rfl (yieldedAt rfl rfl (show a.eval (.tmp 264) = .bool false from (hv 20 (by decide) _ rfl _ rfl)))) (execMvB rfl ((hf 16 (by decide)).trans t16)) ⟨s, ⟨_, rfl, rfl⟩, hS, fun _ _ => rfl⟩
          | 23, _ => exact stepC rfl (wantedOf rfl (yieldedAt rfl rfl (show a.eval (.tmp 264) = .bool false from (hv 20 (by decide) _ rfl _ rfl)))) (execCall2 Try.func14 (by kernel_rfl) (by kernel_rfl) rfl (hv 21 (by decide) _ rfl _ rfl) (hv 22 (by decide) _ rfl _ rfl)) (same_t _ _ (zl (drE sf J cf n (fun _ => 0) k) n) _ _ X (Fd241.on hS) (Fd227.on hS) (fun _ _ => rfl) (by have h1_ := zl_le (paE sf J (fun _ => 0) m) m; have h2_ := zl_le (drE sf J cf n (fun _ => 0) k) n; omega)) fun e w' hh => ⟨_, hh.1, s, ⟨_, rfl, rfl⟩, (hS).trans ((hh.2).mono (hS).size), fun _ _ => rfl⟩
          | 24, _ => exact stepV rfl (wantedOf rfl (yieldedAt rfl rfl (show a.eval (.tmp 264) = .bool false from (hv 20 (by decide) _ rfl _ rfl)))) (execNot8 rfl (hv 23 (by decide) _ rfl _ rfl)) ⟨s, ⟨_, rfl, rfl⟩, hS, fun _ _ => rfl⟩
          | 25, _ => exact stepV rfl rfl (execPickF rfl (hv 20 (by decide) _ rfl _ rfl) (hv 24 (by decide) _ rfl _ rfl)) ⟨s, ⟨_, rfl, rfl⟩, hS, fun _ _ => rfl⟩
          | k_ + 26, h_ => exact absurd h_ (by simp)
        rintro _ a X36 h1 h2 h3 h4 hS
        replace hS : Below X35.heap.size X35 X36 := hS
        have bX := hS
        clear hS
        replace t32 := (h3 32 (by decide)).trans t32
        replace t33 := (h3 33 (by decide)).trans t33
        replace t34 := (h3 34 (by decide)).trans t34
        have t269 : a.eval (.tmp 269) = .bool false := h4 25 _ rfl _ rfl
        replace FM7 := (FM7.on bX)
        replace Fa219 := (Fa219.on bX)
        replace Fo219 := (Fo219.on bX)
        replace Fd227 := (Fd227.on bX)
        replace Fa233 := (Fa233.on bX)
        replace Fo233 := (Fo233.on bX)
        replace Fd241 := (Fd241.on bX)
        have ZX36 := bX.size
        replace BW := BW.trans (bX.mono BW.size)
        clear bX
        replace A := (⟨h1, h2.trans A.2⟩ : a.tmps.size = 271 ∧ a.defers = [])
        clear h1 h2 h3 h4
        clear t13 t14 t15 t16 t17 t18 t19 t20 t24 t25
        refine wp_cond_false t269 ?_
        refine wp_skip ?_
        clear t269
        have BB := BW
        clear BW
        clear FM7
        clear Fa219
        clear Fo219
        clear Fd227
        clear Fa233
        clear Fo233
        clear Fd241
        refine wp_region_sq (σ := Unit) 271 [(0, 270), (1, 34)] (fun j_ s X => match j_ with | 0 => Below V.heap.size V X | 1 => Below V.heap.size V X | _ => Below V.heap.size V X) (fun s => fun i_ => match i_ with | 0 => .int .i64 ((i + 1 : Nat) : Int) | 1 => .int .i64 ((i + 1 : Nat) : Int) | _ => undef) () A.1 (by kernel_rfl) (by decide) (by decide) (BB) ?_ ?_
        · intro i_ hi_ s a X hf hv hn hS
          match i_, hi_ with
          | 0, _ => exact stepV rfl rfl (execAd8 (p := i) (q := 1) rfl ((hn 1 (by decide) _ rfl _ rfl).trans t34) rfl (by omega)) ⟨s, ⟨_, rfl, rfl⟩, hS, fun _ _ => rfl⟩
          | 1, _ => exact stepV rfl rfl (execMvB rfl (hv 0 (by decide) _ rfl _ rfl)) ⟨s, ⟨_, rfl, rfl⟩, hS, fun _ _ => rfl⟩
          | k_ + 2, h_ => exact absurd h_ (by simp)
        rintro _ a X38 h1 h2 h3 h4 hS
        clear BB
        replace hS : Below V.heap.size V X38 := hS
        have BB := hS
        clear hS
        replace t32 := (h3 32 (by decide)).trans t32
        replace t33 := (h3 33 (by decide)).trans t33
        replace t34 : a.eval (.tmp 34) = .int .i64 ((i + 1 : Nat) : Int) := h4 1 _ rfl _ rfl
        replace A := (⟨h1, h2.trans A.2⟩ : a.tmps.size = 271 ∧ a.defers = [])
        clear h1 h2 h3 h4
        exact ⟨⟨i + 1, lti, A, t32, t33, t34, BB⟩, by show N - (intOf (a.eval (.tmp 34))).toNat < N - (intOf (Act.eval _ (.tmp 34))).toNat; rw [t34, esi]; show N - (i + 1) < N - i; omega⟩
  · rw [decide_eq_false lti] at t35
    refine wp_cond_false t35 ?_
    refine wp_exit ?_
    first | with_reducible refine exit_in ?_ | with_reducible refine exit_then (exit_in ?_) | with_reducible refine exit_then (exit_then (exit_in ?_)) | refine exit_in ?_ | refine exit_then (exit_in ?_) | refine exit_then (exit_then (exit_in ?_))
    clear t35 esi
    clear t32 t33 t34
    refine wp_seq ?_
    refine wp_region_sq (σ := Unit) 271 [(0, 2)] (fun j_ s X => match j_ with | 0 => Below V.heap.size V X | _ => Below V.heap.size V X) (fun s => fun i_ => match i_ with | 0 => .bool true | _ => undef) () A.1 (by kernel_rfl) (by decide) (by decide) (BB) ?_ ?_
    · intro i_ hi_ s a X hf hv hn hS
      match i_, hi_ with
      | 0, _ => exact stepV rfl rfl (execAsgB rfl rfl) ⟨s, ⟨_, rfl, rfl⟩, hS, fun _ _ => rfl⟩
      | k_ + 1, h_ => exact absurd h_ (by simp)
    rintro _ a X39 h1 h2 h3 h4 hS
    clear BB
    replace hS : Below V.heap.size V X39 := hS
    have BB := hS
    clear hS
    have t2 : a.eval (.tmp 2) = .bool true := h4 0 _ rfl _ rfl
    replace A := (⟨h1, h2.trans A.2⟩ : a.tmps.size = 271 ∧ a.defers = [])
    clear h1 h2 h3 h4
    refine wp_ret ?_
    repeat (first | with_reducible refine ret_in ?_ | with_reducible refine ret_then ?_)
    refine bodyPost_ret (results_tmp rfl _ _ _) A.2 ⟨?_, BB⟩
    show Ending.returned (a.eval (.tmp 2)) = _
    rw [t2]
end Go.Proofs.Ytdecmmcphcomhaa.Brd
