import Derived.Test.YtdecmmcphcomhaaQ9z
namespace Go.Proofs.Ytdecmmcphcomhaa.Brd
open Go.RowKit Gf8 Aes By8 Cel Cf Tap Drw Prm
/- Stage 12: the law's great, chunksOf; the reference's Weave. Written by tools/mkU9a.py. -/

/-- Lengths that the law lays out. -/
def GoodL (lf : Nat → Int) (J : Nat) : Prop := (∀ j, j < J → 0 ≤ lf j ∧ lf j ≤ 65536) ∧ sumN (gN lf) J + J ≤ 1048576
theorem good_eq {lf : Nat → Int} {J : Nat} (h : GoodL lf J) {j : Nat} (hj : j < J) : lf j = (gN lf j : Int) := by
  have := h.1 j hj
  show lf j = (((lf j).toNat : Nat) : Int)
  omega
theorem we_st {cf lf : Nat → Int} {n J : Nat} (hG : GoodL lf J) (q : stQ cf n (fun j => (gN lf j : Int)) J = true) : stQ cf n lf J = true := by
  obtain ⟨a, b⟩ := stQ_iff.1 q
  exact stQ_iff.2 ⟨a, fun j hj => (good_eq hG hj).trans (b j hj)⟩
theorem st_we {cf lf : Nat → Int} {n J : Nat} (hG : GoodL lf J) (q : stQ cf n lf J = true) : stQ cf n (fun j => (gN lf j : Int)) J = true := by
  obtain ⟨a, b⟩ := stQ_iff.1 q
  exact stQ_iff.2 ⟨a, fun j hj => (good_eq hG hj).symm.trans (b j hj)⟩
theorem rw_len {cf lf : Nat → Int} {i J : Nat} (hG : GoodL lf J) (hin : ∀ j, j < i → 0 ≤ cf j ∧ cf j < (J : Int)) (hcl : ∀ j, cntC (gN cf) j i ≤ gN lf j) : i ≤ 1048576 := by
  have h1 := cnt_all (C := gN cf) (J := J) (n := i) (fun k hk => by have := hin k hk; show (cf k).toNat < J; omega)
  have h2 := sumN_le (r := fun j => cntC (gN cf) j i) (q := gN lf) (J := J) (fun j _ => hcl j)
  have h3 := hG.2
  omega
theorem rw_cl {cf lf : Nat → Int} {i : Nat} (hcl : ∀ j, cntC (gN cf) j i ≤ gN lf j) (h : ¬ gN lf (gN cf i) ≤ cntC (gN cf) (gN cf i) i) : ∀ j, cntC (gN cf) j (i + 1) ≤ gN lf j := fun j => by
  have h1 := hcl j
  show cntC (gN cf) j i + (if gN cf i = j then 1 else 0) ≤ gN lf j
  by_cases e : gN cf i = j
  · subst e
    rw [if_pos rfl]
    omega
  · rw [if_neg e]
    omega
/-- The places of the things woven, cell by cell. -/
def rwH (cf : Nat → Int) (t : Nat) : Int := if t % 2 = 0 then (gN cf (t / 2) : Int) else (cntC (gN cf) (gN cf (t / 2)) (t / 2) : Int)
theorem rwH_0 (cf : Nat → Int) (i : Nat) : rwH cf (i * 2) = (gN cf i : Int) := by
  unfold rwH
  rw [if_pos (by omega), show i * 2 / 2 = i by omega]
theorem rwH_1 (cf : Nat → Int) (i : Nat) : rwH cf (i * 2 + 1) = (cntC (gN cf) (gN cf i) i : Int) := by
  unfold rwH
  rw [if_neg (by omega), show (i * 2 + 1) / 2 = i by omega]
/-- The things of chunk j, and one behind them. -/
def chH (ln : Nat → Nat) (j t : Nat) : Int := if t < ln j * 2 then (if t % 2 = 0 then (j : Int) else ((t / 2 : Nat) : Int)) else -1
theorem chH_0 {ln : Nat → Nat} {j i : Nat} (h : i < ln j) : chH ln j (i * 2) = (j : Int) := by
  unfold chH
  rw [if_pos (by omega), if_pos (by omega)]
theorem chH_1 {ln : Nat → Nat} {j i : Nat} (h : i < ln j) : chH ln j (i * 2 + 1) = (i : Int) := by
  unfold chH
  rw [if_pos (by omega), if_neg (by omega), show (i * 2 + 1) / 2 = i by omega]
theorem chH_n {ln : Nat → Nat} {j n : Nat} (h : ln j = n) : chH ln j (n * 2) = -1 := by
  unfold chH
  rw [if_neg (by omega)]
theorem chH_m {ln : Nat → Nat} {j n : Nat} (h : ln j = n) : chH ln j (n * 2 + 1) = -1 := by
  unfold chH
  rw [if_neg (by omega)]
/-- Rows of things, one longer than they are told. -/
structure FmT (B k : Nat) (gb cp ln : Nat → Nat) (hh : Nat → Nat → Int) (W : World) : Prop where
  rows : ∀ t, t < k → W.ownsRow B 59 2 (.slice (some ⟨gb t, 0, none⟩) (ln t + 1) (cp t)) (ln t + 1) (intsL ((ln t + 1) * 2) (hh t))
  dis : ∀ s t, s < k → t < k → s ≠ t → gb s ≠ gb t
def xT (gb cp ln : Nat → Nat) (t : Nat) : Value := .slice (some ⟨gb t, 0, none⟩) (ln t) (cp t)
def updK (f : Nat → Nat) (j x : Nat) : Nat → Nat := fun t => if t = j then x else f t
theorem updK_at (f : Nat → Nat) (j x : Nat) : updK f j x j = x := if_pos rfl
theorem updK_o (f : Nat → Nat) {j t : Nat} (x : Nat) (h : t ≠ j) : updK f j x t = f t := if_neg h
theorem xT_at {gb cp ln : Nat → Nat} {j g c : Nat} : xT (updK gb j g) (updK cp j c) ln j = .slice (some ⟨g, 0, none⟩) (ln j) c := by
  unfold xT
  rw [updK_at, updK_at]
theorem xT_lt {gb cp ln : Nat → Nat} {j g c t : Nat} (h : t < j) : xT gb cp ln t = xT (updK gb j g) (updK cp j c) ln t := by
  unfold xT
  rw [updK_o _ _ (by omega), updK_o _ _ (by omega)]
section
variable {B k : Nat} {gb cp ln : Nat → Nat} {hh : Nat → Nat → Int} {W W' : World}
theorem FmT.on (h : FmT B k gb cp ln hh W) (b : Below W.heap.size W W') : FmT B k gb cp ln hh W' := ⟨fun t ht => ownD_below (h.rows t ht) b, h.dis⟩
theorem FmT.grown {row : Option Nat} (h : FmT B k gb cp ln hh W) (gr : W.grownBy W' row) (hne : ∀ t, t < k → row ≠ some (gb t)) : FmT B k gb cp ln hh W' :=
  ⟨fun t ht => ownW_grown (h.rows t ht) gr (fun z e => by rw [← Option.some.inj e]; exact hne t ht), h.dis⟩
theorem FmT.over {C m s : Nat} {u : TypeId} {v2 : Value} {ys : List Value} (h : FmT B k gb cp ln hh W) (hlt : ∀ t, t < k → gb t < C) (h2 : W.ownsRow C u s v2 m ys) (gr : W.grownBy W' v2.ownBlock) : FmT B k gb cp ln hh W' :=
  h.grown gr (fun t ht e => by have a1 := hlt t ht; have a2 := (h2.lt _ e).1; omega)
theorem FmT.overT {C m s : Nat} {u : TypeId} {v2 : Value} {ys : List Value} (h : FmT B k gb cp ln hh W) (h2 : W.ownsRow C u s v2 m ys) (hu : 59 ≠ u) (gr : W.grownBy W' v2.ownBlock) : FmT B k gb cp ln hh W' :=
  ⟨fun t ht => own_overT (h.rows t ht) h2 gr hu, h.dis⟩
theorem FmT.add {C g c : Nat} (h : FmT B k gb cp ln hh W) (hlt : ∀ t, t < k → gb t < C) (hr : W.ownsRow C 59 2 (.slice (some ⟨g, 0, none⟩) (ln k + 1) c) (ln k + 1) (intsL ((ln k + 1) * 2) (hh k))) (hB : B ≤ C) : FmT B (k + 1) (updK gb k g) (updK cp k c) ln hh W := by
  have hg := (hr.lt g rfl).1
  refine ⟨fun t ht => ?_, fun s t hs ht hst => ?_⟩
  · by_cases q : t = k
    · subst q
      rw [updK_at, updK_at]
      exact ownD_base hr hB
    · rw [updK_o _ _ q, updK_o _ _ q]
      exact h.rows t (by omega)
  · by_cases q : s = k
    · subst q
      rw [updK_at, updK_o _ _ (fun z => hst z.symm)]
      have := hlt t (by omega)
      omega
    · by_cases q2 : t = k
      · subst q2
        rw [updK_at, updK_o _ _ q]
        have := hlt s (by omega)
        omega
      · rw [updK_o _ _ q, updK_o _ _ q2]
        exact h.dis s t (by omega) (by omega) hst
end
theorem infoLT : ∃ i, Try.prog.info? 55 = some i ∧ i.zero = some (.slice none 0 0) ∧ i.size = 1 ∧ i.bytes = 24 := by
  have h : (Try.prog.info? 55).map (fun i => (i.zero, i.size, i.bytes)) = some (some (.slice none 0 0), 1, 24) := by kernel_rfl
  cases hq : Try.prog.info? 55 with
  | none => rw [hq] at h; cases h
  | some i =>
    rw [hq] at h
    simp only [Option.map_some, Option.some.injEq, Prod.mk.injEq] at h
    exact ⟨i, rfl, h.1, h.2.1, h.2.2⟩
theorem execBsLT {o : Oper} {a : Act} {w : World} {x : Operand} {r : Value} (ho : o.op = .buildSlice 50 1 #[(0, x)]) (hx : a.eval x = r) (hr : ∃ g n c, r = .slice g n c) : (execOp a.eval o).run Try.prog w = .ok (.value (.slice (some ⟨w.heap.size, 0, none⟩) 1 1)) (w.alloc (.cells #[r] 55)) := by
  obtain ⟨g, n, c, rfl⟩ := hr
  unfold execOp
  simp only [ho, List.map_toArray, List.map_cons, List.map_nil, hx]
  simp [go_sem]
/-- append to a list of lists of things. -/
theorem stepAppLT {ops : Array Oper} {Q : Exit → Act → World → Prop} {K : Act → World → Prop} {j : Nat} {o : Oper} {a : Act} {W : World} {s x : Operand} {B n g : Nat} {v : Value} {y z : Nat → Value} {r : Value} (hos : ops[j]? = some o) (hgd : Region.wanted o (yielded ops a.tmps) = true)
    (ho : o.op = .call { callee := .builtin .append, args := #[s, x], argTypes := #[50, 50] }) (hs : a.eval s = v) (hx : a.eval x = .slice (some ⟨g, 0, none⟩) 1 1) (hown : W.ownsRow B 55 1 v n (lL y n)) (hg : W.heap[g]? = some (.cells #[r] 55)) (hr : z n = r) (hyz : ∀ j, j < n → y j = z j) (hn : n + 1 ≤ 2000000) (hB : B ≤ W.heap.size) (h1 : r.oneCell' = true)
    (hK : ∀ v' W', W'.ownsRow B 55 1 v' (n + 1) (lL z (n + 1)) → W.grownBy W' v.ownBlock → K (a.put o.dst v') W') : wpOp Try.prog ops Q j K a W := by
  obtain ⟨i, i1, i2, i3, i4⟩ := infoLT
  obtain ⟨v', W', run, q1, q2⟩ := execAppO (W := W) (m := 1) (c := 1) (news := [r]) ho Try.underlying50 i1 i2 i3 i4 (by simp [Value.cells]) (by decide) hs hown hx (by simp) (fun j u hu => by
    rw [Go.WideShapes.add_plain, cell_of_row _ _ _ _ _ _ hg, Nat.zero_add, ← Array.getElem?_toList]
    exact hu) (fun u hu => by
    obtain rfl := List.mem_singleton.1 hu
    exact h1) (by unfold maxLen; omega) (by omega) hB
  have e : lL y n ++ [r] = lL z (n + 1) := by
    rw [lL_congr (y := z) n hyz, ← hr]
    rfl
  rw [e] at q1
  exact stepV hos hgd run (hK v' W' q1 q2)
set_option maxRecDepth 100000 in
set_option maxHeartbeats 4000000 in
/-- The law's great. -/
theorem great_any (lf : Nat → Int) (J : Nat) (v : Value) (V : World) (FI : SliceI V v J lf) (hJ17 : J ≤ 17592186044416) :
    Calls Try.prog 23 #[v] V fun e w' => ∃ b, e = .returned (.bool b) ∧ (b = false → GoodL lf J) ∧ Below V.heap.size V w' := by
  go_enter Try.func23, Try.ntmps23
  refine wp_seq ?_
  refine wp_region_sqK 25 [(0, 2)] (fun i_ => match i_ with | 0 => .bool false | _ => undef) rfl (by kernel_rfl) (by decide) (by decide) ?_ ?_
  · intro i_ hi_ a hf hv hn
    match i_, hi_ with
    | 0, _ => exact stepV rfl rfl (execAsgB rfl rfl) ⟨⟨_, rfl, rfl⟩, rfl⟩
    | k_ + 1, h_ => exact absurd h_ (by simp)
  intro a h1 h2 h3 h4
  have t0 : a.eval (.tmp 0) = v := (h3 0 (by decide)).trans rfl
  have A : a.tmps.size = 25 ∧ a.defers = [] := ⟨h1, h2⟩
  have BW : Below V.heap.size V V := Below.refl _ _
  clear h1 h2 h3 h4
  have BB := BW
  refine wp_seq ?_
  refine wp_region_sq (σ := Unit) 25 [(0, 3)] (fun j_ s X => match j_ with | 0 => Below V.heap.size V X | _ => Below V.heap.size V X) (fun s => fun i_ => match i_ with | 0 => .int .i64 ((0 : Nat) : Int) | _ => undef) () A.1 (by kernel_rfl) (by decide) (by decide) (BB) ?_ ?_
  · intro i_ hi_ s a X hf hv hn hS
    match i_, hi_ with
    | 0, _ => exact stepV rfl rfl (execAsgB rfl rfl) ⟨s, ⟨_, rfl, rfl⟩, hS, fun _ _ => rfl⟩
    | k_ + 1, h_ => exact absurd h_ (by simp)
  rintro _ a X1 h1 h2 h3 h4 hS
  clear BB
  replace hS : Below V.heap.size V X1 := hS
  have BB := hS
  clear hS
  replace t0 := (h3 0 (by decide)).trans t0
  have t3 : a.eval (.tmp 3) = .int .i64 ((0 : Nat) : Int) := h4 0 _ rfl _ rfl
  replace A := (⟨h1, h2.trans A.2⟩ : a.tmps.size = 25 ∧ a.defers = [])
  clear h1 h2 h3 h4
  refine wp_seq ?_
  refine wp_seq ?_
  refine wp_region_sq (σ := Unit) 25 [(0, 6), (1, 7), (2, 8)] (fun j_ s X => match j_ with | 0 => Below V.heap.size V X | 1 => Below V.heap.size V X | 2 => Below V.heap.size V X | _ => Below V.heap.size V X) (fun s => fun i_ => match i_ with | 0 => v | 1 => .int .i64 ((J : Nat) : Int) | 2 => .int .i64 ((0 : Nat) : Int) | _ => undef) () A.1 (by kernel_rfl) (by decide) (by decide) (BB) ?_ ?_
  · intro i_ hi_ s a X hf hv hn hS
    match i_, hi_ with
    | 0, _ => exact stepV rfl rfl (execMvB rfl ((hf 0 (by decide)).trans t0)) ⟨s, ⟨_, rfl, rfl⟩, hS, fun _ _ => rfl⟩
    | 1, _ => exact stepV rfl rfl (execLenI (len := J) rfl (hv 0 (by decide) _ rfl _ rfl) ((FI.on hS)).shp) ⟨s, ⟨_, rfl, rfl⟩, hS, fun _ _ => rfl⟩
    | 2, _ => exact stepV rfl rfl (execMvB rfl rfl) ⟨s, ⟨_, rfl, rfl⟩, hS, fun _ _ => rfl⟩
    | k_ + 3, h_ => exact absurd h_ (by simp)
  rintro _ a X2 h1 h2 h3 h4 hS
  clear BB
  replace hS : Below V.heap.size V X2 := hS
  have BB := hS
  clear hS
  replace t3 := (h3 3 (by decide)).trans t3
  have t6 : a.eval (.tmp 6) = v := h4 0 _ rfl _ rfl
  have t7 : a.eval (.tmp 7) = .int .i64 ((J : Nat) : Int) := h4 1 _ rfl _ rfl
  have t8 : a.eval (.tmp 8) = .int .i64 ((0 : Nat) : Int) := h4 2 _ rfl _ rfl
  replace A := (⟨h1, h2.trans A.2⟩ : a.tmps.size = 25 ∧ a.defers = [])
  clear h1 h2 h3 h4
  clear t0
  refine wp_block ?_
  refine wp_loop (fun a W => ∃ (i : Nat), i ≤ J ∧ (∀ j, j < i → 0 ≤ lf j ∧ lf j ≤ 65536) ∧ (sumN (gN lf) i + i ≤ 1048576) ∧ (a.tmps.size = 25 ∧ a.defers = []) ∧ a.eval (.tmp 3) = .int .i64 ((sumN (gN lf) i + i : Nat) : Int) ∧ a.eval (.tmp 6) = v ∧ a.eval (.tmp 7) = .int .i64 ((J : Nat) : Int) ∧ a.eval (.tmp 8) = .int .i64 ((i : Nat) : Int) ∧ Below V.heap.size V W) (fun a _ => J - (intOf (a.eval (.tmp 8))).toNat) ⟨0, Nat.zero_le _, fun j hj => absurd hj (Nat.not_lt_zero _), by show 0 + 0 ≤ _; omega, A, t3, t6, t7, t8, BB⟩ ?_
  clear A t3 t6 t7 t8 BB a
  rintro a XL3 ⟨i, hi, hgd, hsm, A, t3, t6, t7, t8, BB⟩
  have esi := t8
  refine wp_seq ?_
  refine wp_region_sq (σ := Unit) 25 [(0, 9)] (fun j_ s X => match j_ with | 0 => Below V.heap.size V X | _ => Below V.heap.size V X) (fun s => fun i_ => match i_ with | 0 => .bool (decide (i < J)) | _ => undef) () A.1 (by kernel_rfl) (by decide) (by decide) (BB) ?_ ?_
  · intro i_ hi_ s a X hf hv hn hS
    match i_, hi_ with
    | 0, _ => exact stepV rfl rfl (execLtW (p := i) (q := J) rfl ((hf 8 (by decide)).trans t8) ((hf 7 (by decide)).trans t7)) ⟨s, ⟨_, rfl, rfl⟩, hS, fun _ _ => rfl⟩
    | k_ + 1, h_ => exact absurd h_ (by simp)
  rintro _ a X3 h1 h2 h3 h4 hS
  clear BB
  replace hS : Below V.heap.size V X3 := hS
  have BB := hS
  clear hS
  replace t3 := (h3 3 (by decide)).trans t3
  replace t6 := (h3 6 (by decide)).trans t6
  replace t7 := (h3 7 (by decide)).trans t7
  replace t8 := (h3 8 (by decide)).trans t8
  have t9 : a.eval (.tmp 9) = .bool (decide (i < J)) := h4 0 _ rfl _ rfl
  replace A := (⟨h1, h2.trans A.2⟩ : a.tmps.size = 25 ∧ a.defers = [])
  clear h1 h2 h3 h4
  refine wp_seq ?_
  by_cases lti : i < J
  · rw [decide_eq_true lti] at t9
    refine wp_cond_true t9 ?_
    refine wp_skip ?_
    clear t9
    refine wp_seq ?_
    refine wp_block ?_
    obtain ⟨llb, llo, llc, ell, hllb, hllc⟩ := open_sl FI (by omega)
    have cll : ∀ k, k < J → ∀ X, Below V.heap.size V X → X.cell? ⟨llb, llo + k, none⟩ = some (.int .i64 ((lf) k)) := fun k hk X hX => by rw [cell_below hX hllb]; exact hllc k hk
    by_cases h1 : lf i < 0
    · refine wp_seq ?_
      refine wp_region_sq (σ := Unit) 25 [(0, 10), (1, 11), (2, 5)] (fun j_ s X => match j_ with | 0 => Below V.heap.size V X | 1 => Below V.heap.size V X | 2 => Below V.heap.size V X | _ => Below V.heap.size V X) (fun s => fun i_ => match i_ with | 0 => .pointer (some ⟨llb, llo + i, none⟩) | 1 => .int .i64 (lf i) | 2 => .int .i64 (lf i) | _ => undef) () A.1 (by kernel_rfl) (by decide) (by decide) (BB) ?_ ?_
      · intro i_ hi_ s a X hf hv hn hS
        match i_, hi_ with
        | 0, _ => exact stepV rfl rfl (execIdxN (k := i) rfl (((hf 6 (by decide)).trans t6).trans ell) ((hf 8 (by decide)).trans t8) lti) ⟨s, ⟨_, rfl, rfl⟩, hS, fun _ _ => rfl⟩
        | 1, _ => exact stepV rfl rfl (execLd3 rfl (hv 0 (by decide) _ rfl _ rfl) (cll i lti X hS)) ⟨s, ⟨_, rfl, rfl⟩, hS, fun _ _ => rfl⟩
        | 2, _ => exact stepV rfl rfl (execAsgB rfl (hv 1 (by decide) _ rfl _ rfl)) ⟨s, ⟨_, rfl, rfl⟩, hS, fun _ _ => rfl⟩
        | k_ + 3, h_ => exact absurd h_ (by simp)
      rintro _ a X4 h1 h2 h3 h4 hS
      clear BB
      replace hS : Below V.heap.size V X4 := hS
      have BB := hS
      clear hS
      replace t3 := (h3 3 (by decide)).trans t3
      replace t6 := (h3 6 (by decide)).trans t6
      replace t7 := (h3 7 (by decide)).trans t7
      replace t8 := (h3 8 (by decide)).trans t8
      have t5 : a.eval (.tmp 5) = .int .i64 (lf i) := h4 2 _ rfl _ rfl
      replace A := (⟨h1, h2.trans A.2⟩ : a.tmps.size = 25 ∧ a.defers = [])
      clear h1 h2 h3 h4
      refine wp_seq ?_
      refine wp_seq ?_
      refine wp_region_sq (σ := Unit) 25 [(0, 12), (1, 13), (2, 14), (3, 15), (4, 16), (5, 17)] (fun j_ s X => match j_ with | 0 => Below V.heap.size V X | 1 => Below V.heap.size V X | 2 => Below V.heap.size V X | 3 => Below V.heap.size V X | 4 => Below V.heap.size V X | 5 => Below V.heap.size V X | _ => Below V.heap.size V X) (fun s => fun i_ => match i_ with | 0 => .int .i64 (lf i) | 1 => .bool true | 2 => .bool true | 3 => undef | 4 => undef | 5 => .bool true | _ => undef) () A.1 (by kernel_rfl) (by decide) (by decide) (BB) ?_ ?_
      · intro i_ hi_ s a X hf hv hn hS
        match i_, hi_ with
        | 0, _ => exact stepV rfl rfl (execMvB rfl ((hf 5 (by decide)).trans t5)) ⟨s, ⟨_, rfl, rfl⟩, hS, fun _ _ => rfl⟩
        | 1, _ => exact stepV rfl rfl (execLtCt (p := (lf i)) (q := 0) rfl (hv 0 (by decide) _ rfl _ rfl) (by exact h1)) ⟨s, ⟨_, rfl, rfl⟩, hS, fun _ _ => rfl⟩
        | 2, _ => exact stepV rfl rfl (execMvB rfl (hv 1 (by decide) _ rfl _ rfl)) ⟨s, ⟨_, rfl, rfl⟩, hS, fun _ _ => rfl⟩
        | 3, _ => exact stepU rfl (unwantedOf rfl (yieldedAt rfl rfl (show a.eval (.tmp 14) = .bool (!false) from (hv 2 (by decide) _ rfl _ rfl)))) ⟨s, ⟨_, rfl, rfl⟩, hS, fun _ _ => rfl⟩
        | 4, _ => exact stepU rfl (unwantedOf rfl (yieldedAt rfl rfl (show a.eval (.tmp 14) = .bool (!false) from (hv 2 (by decide) _ rfl _ rfl)))) ⟨s, ⟨_, rfl, rfl⟩, hS, fun _ _ => rfl⟩
        | 5, _ => exact stepV rfl rfl (execPickT rfl (hv 2 (by decide) _ rfl _ rfl) rfl) ⟨s, ⟨_, rfl, rfl⟩, hS, fun _ _ => rfl⟩
        | k_ + 6, h_ => exact absurd h_ (by simp)
      rintro _ a X5 h1 h2 h3 h4 hS
      clear BB
      replace hS : Below V.heap.size V X5 := hS
      have BB := hS
      clear hS
      replace t3 := (h3 3 (by decide)).trans t3
      replace t6 := (h3 6 (by decide)).trans t6
      replace t7 := (h3 7 (by decide)).trans t7
      replace t8 := (h3 8 (by decide)).trans t8
      replace t5 := (h3 5 (by decide)).trans t5
      have t17 : a.eval (.tmp 17) = .bool true := h4 5 _ rfl _ rfl
      replace A := (⟨h1, h2.trans A.2⟩ : a.tmps.size = 25 ∧ a.defers = [])
      clear h1 h2 h3 h4
      refine wp_cond_true t17 ?_
      refine wp_seq ?_
      refine wp_region_sq (σ := Unit) 25 [(0, 2)] (fun j_ s X => match j_ with | 0 => Below V.heap.size V X | _ => Below V.heap.size V X) (fun s => fun i_ => match i_ with | 0 => .bool true | _ => undef) () A.1 (by kernel_rfl) (by decide) (by decide) (BB) ?_ ?_
      · intro i_ hi_ s a X hf hv hn hS
        match i_, hi_ with
        | 0, _ => exact stepV rfl rfl (execAsgB rfl rfl) ⟨s, ⟨_, rfl, rfl⟩, hS, fun _ _ => rfl⟩
        | k_ + 1, h_ => exact absurd h_ (by simp)
      rintro _ a X6 h1 h2 h3 h4 hS
      clear BB
      replace hS : Below V.heap.size V X6 := hS
      have BB := hS
      clear hS
      have t2 : a.eval (.tmp 2) = .bool true := h4 0 _ rfl _ rfl
      replace A := (⟨h1, h2.trans A.2⟩ : a.tmps.size = 25 ∧ a.defers = [])
      clear h1 h2 h3 h4
      clear t3 t6 t7 t8 t5
      refine wp_ret ?_
      repeat (first | with_reducible refine ret_in ?_ | with_reducible refine ret_then ?_)
      refine bodyPost_ret (results_tmp rfl _ _ _) A.2 ⟨true, ?_, (fun q => by cases q), BB⟩
      show Ending.returned (a.eval (.tmp 2)) = _
      rw [t2]
    · by_cases h2 : 65536 < lf i
      · obtain ⟨w, ew⟩ : ∃ w : Nat, lf i = w := ⟨(lf i).toNat, by omega⟩
        have e3 : sumN (gN lf) i + i + w + 1 = sumN (gN lf) (i + 1) + (i + 1) := by show _ = sumN (gN lf) i + (lf i).toNat + (i + 1); omega
        refine wp_seq ?_
        refine wp_region_sq (σ := Unit) 25 [(0, 10), (1, 11), (2, 5)] (fun j_ s X => match j_ with | 0 => Below V.heap.size V X | 1 => Below V.heap.size V X | 2 => Below V.heap.size V X | _ => Below V.heap.size V X) (fun s => fun i_ => match i_ with | 0 => .pointer (some ⟨llb, llo + i, none⟩) | 1 => .int .i64 ((w : Nat) : Int) | 2 => .int .i64 ((w : Nat) : Int) | _ => undef) () A.1 (by kernel_rfl) (by decide) (by decide) (BB) ?_ ?_
        · intro i_ hi_ s a X hf hv hn hS
          match i_, hi_ with
          | 0, _ => exact stepV rfl rfl (execIdxN (k := i) rfl (((hf 6 (by decide)).trans t6).trans ell) ((hf 8 (by decide)).trans t8) lti) ⟨s, ⟨_, rfl, rfl⟩, hS, fun _ _ => rfl⟩
          | 1, _ => exact stepV rfl rfl (execLd3 rfl (hv 0 (by decide) _ rfl _ rfl) ((cll i lti X hS).trans (by rw [ew]))) ⟨s, ⟨_, rfl, rfl⟩, hS, fun _ _ => rfl⟩
          | 2, _ => exact stepV rfl rfl (execAsgB rfl (hv 1 (by decide) _ rfl _ rfl)) ⟨s, ⟨_, rfl, rfl⟩, hS, fun _ _ => rfl⟩
          | k_ + 3, h_ => exact absurd h_ (by simp)
        rintro _ a X4 h1 h2 h3 h4 hS
        clear BB
        replace hS : Below V.heap.size V X4 := hS
        have BB := hS
        clear hS
        replace t3 := (h3 3 (by decide)).trans t3
        replace t6 := (h3 6 (by decide)).trans t6
        replace t7 := (h3 7 (by decide)).trans t7
        replace t8 := (h3 8 (by decide)).trans t8
        have t5 : a.eval (.tmp 5) = .int .i64 ((w : Nat) : Int) := h4 2 _ rfl _ rfl
        replace A := (⟨h1, h2.trans A.2⟩ : a.tmps.size = 25 ∧ a.defers = [])
        clear h1 h2 h3 h4
        refine wp_seq ?_
        refine wp_seq ?_
        refine wp_region_sq (σ := Unit) 25 [(0, 12), (1, 13), (2, 14), (3, 15), (4, 16), (5, 17)] (fun j_ s X => match j_ with | 0 => Below V.heap.size V X | 1 => Below V.heap.size V X | 2 => Below V.heap.size V X | 3 => Below V.heap.size V X | 4 => Below V.heap.size V X | 5 => Below V.heap.size V X | _ => Below V.heap.size V X) (fun s => fun i_ => match i_ with | 0 => .int .i64 ((w : Nat) : Int) | 1 => .bool false | 2 => .bool false | 3 => .int .i64 ((w : Nat) : Int) | 4 => .bool true | 5 => .bool true | _ => undef) () A.1 (by kernel_rfl) (by decide) (by decide) (BB) ?_ ?_
        · intro i_ hi_ s a X hf hv hn hS
          match i_, hi_ with
          | 0, _ => exact stepV rfl rfl (execMvB rfl ((hf 5 (by decide)).trans t5)) ⟨s, ⟨_, rfl, rfl⟩, hS, fun _ _ => rfl⟩
          | 1, _ => exact stepV rfl rfl (execDec (execLtW (p := w) (q := 0) rfl (hv 0 (by decide) _ rfl _ rfl) rfl) (decide_eq_false (by omega))) ⟨s, ⟨_, rfl, rfl⟩, hS, fun _ _ => rfl⟩
          | 2, _ => exact stepV rfl rfl (execMvB rfl (hv 1 (by decide) _ rfl _ rfl)) ⟨s, ⟨_, rfl, rfl⟩, hS, fun _ _ => rfl⟩
          | 3, _ => exact stepV rfl (wantedOf rfl (yieldedAt rfl rfl (show a.eval (.tmp 14) = .bool false from (hv 2 (by decide) _ rfl _ rfl)))) (execMvB rfl ((hf 5 (by decide)).trans t5)) ⟨s, ⟨_, rfl, rfl⟩, hS, fun _ _ => rfl⟩
          | 4, _ => exact stepV rfl (wantedOf rfl (yieldedAt rfl rfl (show a.eval (.tmp 14) = .bool false from (hv 2 (by decide) _ rfl _ rfl)))) (execDec (execGtN (p := w) (q := 65536) rfl (hv 3 (by decide) _ rfl _ rfl) rfl) (decide_eq_true (by omega))) ⟨s, ⟨_, rfl, rfl⟩, hS, fun _ _ => rfl⟩
          | 5, _ => exact stepV rfl rfl (execPickF rfl (hv 2 (by decide) _ rfl _ rfl) (hv 4 (by decide) _ rfl _ rfl)) ⟨s, ⟨_, rfl, rfl⟩, hS, fun _ _ => rfl⟩
          | k_ + 6, h_ => exact absurd h_ (by simp)
        rintro _ a X5 h1 h2 h3 h4 hS
        clear BB
        replace hS : Below V.heap.size V X5 := hS
        have BB := hS
        clear hS
        replace t3 := (h3 3 (by decide)).trans t3
        replace t6 := (h3 6 (by decide)).trans t6
        replace t7 := (h3 7 (by decide)).trans t7
        replace t8 := (h3 8 (by decide)).trans t8
        replace t5 := (h3 5 (by decide)).trans t5
        have t17 : a.eval (.tmp 17) = .bool true := h4 5 _ rfl _ rfl
        replace A := (⟨h1, h2.trans A.2⟩ : a.tmps.size = 25 ∧ a.defers = [])
        clear h1 h2 h3 h4
        refine wp_cond_true t17 ?_
        refine wp_seq ?_
        refine wp_region_sq (σ := Unit) 25 [(0, 2)] (fun j_ s X => match j_ with | 0 => Below V.heap.size V X | _ => Below V.heap.size V X) (fun s => fun i_ => match i_ with | 0 => .bool true | _ => undef) () A.1 (by kernel_rfl) (by decide) (by decide) (BB) ?_ ?_
        · intro i_ hi_ s a X hf hv hn hS
          match i_, hi_ with
          | 0, _ => exact stepV rfl rfl (execAsgB rfl rfl) ⟨s, ⟨_, rfl, rfl⟩, hS, fun _ _ => rfl⟩
          | k_ + 1, h_ => exact absurd h_ (by simp)
        rintro _ a X6 h1 h2 h3 h4 hS
        clear BB
        replace hS : Below V.heap.size V X6 := hS
        have BB := hS
        clear hS
        have t2 : a.eval (.tmp 2) = .bool true := h4 0 _ rfl _ rfl
        replace A := (⟨h1, h2.trans A.2⟩ : a.tmps.size = 25 ∧ a.defers = [])
        clear h1 h2 h3 h4
        clear t3 t6 t7 t8 t5
        refine wp_ret ?_
        repeat (first | with_reducible refine ret_in ?_ | with_reducible refine ret_then ?_)
        refine bodyPost_ret (results_tmp rfl _ _ _) A.2 ⟨true, ?_, (fun q => by cases q), BB⟩
        show Ending.returned (a.eval (.tmp 2)) = _
        rw [t2]
      · obtain ⟨w, ew⟩ : ∃ w : Nat, lf i = w := ⟨(lf i).toNat, by omega⟩
        have e3 : sumN (gN lf) i + i + w + 1 = sumN (gN lf) (i + 1) + (i + 1) := by show _ = sumN (gN lf) i + (lf i).toNat + (i + 1); omega
        refine wp_seq ?_
        refine wp_region_sq (σ := Unit) 25 [(0, 10), (1, 11), (2, 5)] (fun j_ s X => match j_ with | 0 => Below V.heap.size V X | 1 => Below V.heap.size V X | 2 => Below V.heap.size V X | _ => Below V.heap.size V X) (fun s => fun i_ => match i_ with | 0 => .pointer (some ⟨llb, llo + i, none⟩) | 1 => .int .i64 ((w : Nat) : Int) | 2 => .int .i64 ((w : Nat) : Int) | _ => undef) () A.1 (by kernel_rfl) (by decide) (by decide) (BB) ?_ ?_
        · intro i_ hi_ s a X hf hv hn hS
          match i_, hi_ with
          | 0, _ => exact stepV rfl rfl (execIdxN (k := i) rfl (((hf 6 (by decide)).trans t6).trans ell) ((hf 8 (by decide)).trans t8) lti) ⟨s, ⟨_, rfl, rfl⟩, hS, fun _ _ => rfl⟩
          | 1, _ => exact stepV rfl rfl (execLd3 rfl (hv 0 (by decide) _ rfl _ rfl) ((cll i lti X hS).trans (by rw [ew]))) ⟨s, ⟨_, rfl, rfl⟩, hS, fun _ _ => rfl⟩
          | 2, _ => exact stepV rfl rfl (execAsgB rfl (hv 1 (by decide) _ rfl _ rfl)) ⟨s, ⟨_, rfl, rfl⟩, hS, fun _ _ => rfl⟩
          | k_ + 3, h_ => exact absurd h_ (by simp)
        rintro _ a X4 h1 h2 h3 h4 hS
        clear BB
        replace hS : Below V.heap.size V X4 := hS
        have BB := hS
        clear hS
        replace t3 := (h3 3 (by decide)).trans t3
        replace t6 := (h3 6 (by decide)).trans t6
        replace t7 := (h3 7 (by decide)).trans t7
        replace t8 := (h3 8 (by decide)).trans t8
        have t5 : a.eval (.tmp 5) = .int .i64 ((w : Nat) : Int) := h4 2 _ rfl _ rfl
        replace A := (⟨h1, h2.trans A.2⟩ : a.tmps.size = 25 ∧ a.defers = [])
        clear h1 h2 h3 h4
        refine wp_seq ?_
        refine wp_seq ?_
        refine wp_region_sq (σ := Unit) 25 [(0, 12), (1, 13), (2, 14), (3, 15), (4, 16), (5, 17)] (fun j_ s X => match j_ with | 0 => Below V.heap.size V X | 1 => Below V.heap.size V X | 2 => Below V.heap.size V X | 3 => Below V.heap.size V X | 4 => Below V.heap.size V X | 5 => Below V.heap.size V X | _ => Below V.heap.size V X) (fun s => fun i_ => match i_ with | 0 => .int .i64 ((w : Nat) : Int) | 1 => .bool false | 2 => .bool false | 3 => .int .i64 ((w : Nat) : Int) | 4 => .bool false | 5 => .bool false | _ => undef) () A.1 (by kernel_rfl) (by decide) (by decide) (BB) ?_ ?_
        · intro i_ hi_ s a X hf hv hn hS
          match i_, hi_ with
          | 0, _ => exact stepV rfl rfl (execMvB rfl ((hf 5 (by decide)).trans t5)) ⟨s, ⟨_, rfl, rfl⟩, hS, fun _ _ => rfl⟩
          | 1, _ => exact stepV rfl rfl (execDec (execLtW (p := w) (q := 0) rfl (hv 0 (by decide) _ rfl _ rfl) rfl) (decide_eq_false (by omega))) ⟨s, ⟨_, rfl, rfl⟩, hS, fun _ _ => rfl⟩
          | 2, _ => exact stepV rfl rfl (execMvB rfl (hv 1 (by decide) _ rfl _ rfl)) ⟨s, ⟨_, rfl, rfl⟩, hS, fun _ _ => rfl⟩
          | 3, _ => exact stepV rfl (wantedOf rfl (yieldedAt rfl rfl (show a.eval (.tmp 14) = .bool false from (hv 2 (by decide) _ rfl _ rfl)))) (execMvB rfl ((hf 5 (by decide)).trans t5)) ⟨s, ⟨_, rfl, rfl⟩, hS, fun _ _ => rfl⟩
          | 4, _ => exact stepV rfl (wantedOf rfl (yieldedAt rfl rfl (show a.eval (.tmp 14) = .bool false from (hv 2 (by decide) _ rfl _ rfl)))) (execDec (execGtN (p := w) (q := 65536) rfl (hv 3 (by decide) _ rfl _ rfl) rfl) (decide_eq_false (by omega))) ⟨s, ⟨_, rfl, rfl⟩, hS, fun _ _ => rfl⟩
          | 5, _ => exact stepV rfl rfl (execPickF rfl (hv 2 (by decide) _ rfl _ rfl) (hv 4 (by decide) _ rfl _ rfl)) ⟨s, ⟨_, rfl, rfl⟩, hS, fun _ _ => rfl⟩
          | k_ + 6, h_ => exact absurd h_ (by simp)
        rintro _ a X5 h1 h2 h3 h4 hS
        clear BB
        replace hS : Below V.heap.size V X5 := hS
        have BB := hS
        clear hS
        replace t3 := (h3 3 (by decide)).trans t3
        replace t6 := (h3 6 (by decide)).trans t6
        replace t7 := (h3 7 (by decide)).trans t7
        replace t8 := (h3 8 (by decide)).trans t8
        replace t5 := (h3 5 (by decide)).trans t5
        have t17 : a.eval (.tmp 17) = .bool false := h4 5 _ rfl _ rfl
        replace A := (⟨h1, h2.trans A.2⟩ : a.tmps.size = 25 ∧ a.defers = [])
        clear h1 h2 h3 h4
        refine wp_cond_false t17 ?_
        refine wp_skip ?_
        clear t17
        refine wp_seq ?_
        refine wp_region_sq (σ := Unit) 25 [(0, 18), (1, 19), (2, 20), (3, 21), (4, 3)] (fun j_ s X => match j_ with | 0 => Below V.heap.size V X | 1 => Below V.heap.size V X | 2 => Below V.heap.size V X | 3 => Below V.heap.size V X | 4 => Below V.heap.size V X | _ => Below V.heap.size V X) (fun s => fun i_ => match i_ with | 0 => .int .i64 ((sumN (gN lf) i + i : Nat) : Int) | 1 => .int .i64 ((w : Nat) : Int) | 2 => .int .i64 ((w + 1 : Nat) : Int) | 3 => .int .i64 ((sumN (gN lf) i + i + w + 1 : Nat) : Int) | 4 => .int .i64 ((sumN (gN lf) i + i + w + 1 : Nat) : Int) | _ => undef) () A.1 (by kernel_rfl) (by decide) (by decide) (BB) ?_ ?_
        · intro i_ hi_ s a X hf hv hn hS
          match i_, hi_ with
          | 0, _ => exact stepV rfl rfl (execMvB rfl ((hn 4 (by decide) _ rfl _ rfl).trans t3)) ⟨s, ⟨_, rfl, rfl⟩, hS, fun _ _ => rfl⟩
          | 1, _ => exact stepV rfl rfl (execMvB rfl ((hf 5 (by decide)).trans t5)) ⟨s, ⟨_, rfl, rfl⟩, hS, fun _ _ => rfl⟩
          | 2, _ => exact stepV rfl rfl (execAd8 (p := w) (q := 1) rfl (hv 1 (by decide) _ rfl _ rfl) rfl (by omega)) ⟨s, ⟨_, rfl, rfl⟩, hS, fun _ _ => rfl⟩
          | 3, _ => exact stepV rfl rfl (execAd8 (p := sumN (gN lf) i + i) (q := w + 1) rfl (hv 0 (by decide) _ rfl _ rfl) (hv 2 (by decide) _ rfl _ rfl) (by omega)) ⟨s, ⟨_, rfl, rfl⟩, hS, fun _ _ => rfl⟩
          | 4, _ => exact stepV rfl rfl (execAsgB rfl (hv 3 (by decide) _ rfl _ rfl)) ⟨s, ⟨_, rfl, rfl⟩, hS, fun _ _ => rfl⟩
          | k_ + 5, h_ => exact absurd h_ (by simp)
        rintro _ a X7 h1 h2 h3 h4 hS
        clear BB
        replace hS : Below V.heap.size V X7 := hS
        have BB := hS
        clear hS
        replace t3 : a.eval (.tmp 3) = .int .i64 ((sumN (gN lf) i + i + w + 1 : Nat) : Int) := h4 4 _ rfl _ rfl
        replace t6 := (h3 6 (by decide)).trans t6
        replace t7 := (h3 7 (by decide)).trans t7
        replace t8 := (h3 8 (by decide)).trans t8
        replace A := (⟨h1, h2.trans A.2⟩ : a.tmps.size = 25 ∧ a.defers = [])
        clear h1 h2 h3 h4
        clear t5
        rw [e3] at t3
        refine wp_seq ?_
        by_cases h3 : 1048576 < sumN (gN lf) (i + 1) + (i + 1)
        · refine wp_region_sq (σ := Unit) 25 [(0, 22), (1, 23)] (fun j_ s X => match j_ with | 0 => Below V.heap.size V X | 1 => Below V.heap.size V X | _ => Below V.heap.size V X) (fun s => fun i_ => match i_ with | 0 => .int .i64 ((sumN (gN lf) (i + 1) + (i + 1) : Nat) : Int) | 1 => .bool true | _ => undef) () A.1 (by kernel_rfl) (by decide) (by decide) (BB) ?_ ?_
          · intro i_ hi_ s a X hf hv hn hS
            match i_, hi_ with
            | 0, _ => exact stepV rfl rfl (execMvB rfl ((hf 3 (by decide)).trans t3)) ⟨s, ⟨_, rfl, rfl⟩, hS, fun _ _ => rfl⟩
            | 1, _ => exact stepV rfl rfl (execDec (execGtN (p := sumN (gN lf) (i + 1) + (i + 1)) (q := 1048576) rfl (hv 0 (by decide) _ rfl _ rfl) rfl) (decide_eq_true (by omega))) ⟨s, ⟨_, rfl, rfl⟩, hS, fun _ _ => rfl⟩
            | k_ + 2, h_ => exact absurd h_ (by simp)
          rintro _ a X8 h1 h2 h3 h4 hS
          clear BB
          replace hS : Below V.heap.size V X8 := hS
          have BB := hS
          clear hS
          replace t3 := (h3 3 (by decide)).trans t3
          replace t6 := (h3 6 (by decide)).trans t6
          replace t7 := (h3 7 (by decide)).trans t7
          replace t8 := (h3 8 (by decide)).trans t8
          have t23 : a.eval (.tmp 23) = .bool true := h4 1 _ rfl _ rfl
          replace A := (⟨h1, h2.trans A.2⟩ : a.tmps.size = 25 ∧ a.defers = [])
          clear h1 h2 h3 h4
          refine wp_cond_true t23 ?_
          refine wp_seq ?_
          refine wp_region_sq (σ := Unit) 25 [(0, 2)] (fun j_ s X => match j_ with | 0 => Below V.heap.size V X | _ => Below V.heap.size V X) (fun s => fun i_ => match i_ with | 0 => .bool true | _ => undef) () A.1 (by kernel_rfl) (by decide) (by decide) (BB) ?_ ?_
          · intro i_ hi_ s a X hf hv hn hS
            match i_, hi_ with
            | 0, _ => exact stepV rfl rfl (execAsgB rfl rfl) ⟨s, ⟨_, rfl, rfl⟩, hS, fun _ _ => rfl⟩
            | k_ + 1, h_ => exact absurd h_ (by simp)
          rintro _ a X9 h1 h2 h3 h4 hS
          clear BB
          replace hS : Below V.heap.size V X9 := hS
          have BB := hS
          clear hS
          have t2 : a.eval (.tmp 2) = .bool true := h4 0 _ rfl _ rfl
          replace A := (⟨h1, h2.trans A.2⟩ : a.tmps.size = 25 ∧ a.defers = [])
          clear h1 h2 h3 h4
          clear t3 t6 t7 t8
          refine wp_ret ?_
          repeat (first | with_reducible refine ret_in ?_ | with_reducible refine ret_then ?_)
          refine bodyPost_ret (results_tmp rfl _ _ _) A.2 ⟨true, ?_, (fun q => by cases q), BB⟩
          show Ending.returned (a.eval (.tmp 2)) = _
          rw [t2]
        · refine wp_region_sq (σ := Unit) 25 [(0, 22), (1, 23)] (fun j_ s X => match j_ with | 0 => Below V.heap.size V X | 1 => Below V.heap.size V X | _ => Below V.heap.size V X) (fun s => fun i_ => match i_ with | 0 => .int .i64 ((sumN (gN lf) (i + 1) + (i + 1) : Nat) : Int) | 1 => .bool false | _ => undef) () A.1 (by kernel_rfl) (by decide) (by decide) (BB) ?_ ?_
          · intro i_ hi_ s a X hf hv hn hS
            match i_, hi_ with
            | 0, _ => exact stepV rfl rfl (execMvB rfl ((hf 3 (by decide)).trans t3)) ⟨s, ⟨_, rfl, rfl⟩, hS, fun _ _ => rfl⟩
            | 1, _ => exact stepV rfl rfl (execDec (execGtN (p := sumN (gN lf) (i + 1) + (i + 1)) (q := 1048576) rfl (hv 0 (by decide) _ rfl _ rfl) rfl) (decide_eq_false (by omega))) ⟨s, ⟨_, rfl, rfl⟩, hS, fun _ _ => rfl⟩
            | k_ + 2, h_ => exact absurd h_ (by simp)
          rintro _ a X8 h1 h2 h3 h4 hS
          clear BB
          replace hS : Below V.heap.size V X8 := hS
          have BB := hS
          clear hS
          replace t3 := (h3 3 (by decide)).trans t3
          replace t6 := (h3 6 (by decide)).trans t6
          replace t7 := (h3 7 (by decide)).trans t7
          replace t8 := (h3 8 (by decide)).trans t8
          have t23 : a.eval (.tmp 23) = .bool false := h4 1 _ rfl _ rfl
          replace A := (⟨h1, h2.trans A.2⟩ : a.tmps.size = 25 ∧ a.defers = [])
          clear h1 h2 h3 h4
          refine wp_cond_false t23 ?_
          refine wp_skip ?_
          clear t23
          refine wp_region_sq (σ := Unit) 25 [(0, 24), (1, 8)] (fun j_ s X => match j_ with | 0 => Below V.heap.size V X | 1 => Below V.heap.size V X | _ => Below V.heap.size V X) (fun s => fun i_ => match i_ with | 0 => .int .i64 ((i + 1 : Nat) : Int) | 1 => .int .i64 ((i + 1 : Nat) : Int) | _ => undef) () A.1 (by kernel_rfl) (by decide) (by decide) (BB) ?_ ?_
          · intro i_ hi_ s a X hf hv hn hS
            match i_, hi_ with
            | 0, _ => exact stepV rfl rfl (execAd8 (p := i) (q := 1) rfl ((hn 1 (by decide) _ rfl _ rfl).trans t8) rfl (by omega)) ⟨s, ⟨_, rfl, rfl⟩, hS, fun _ _ => rfl⟩
            | 1, _ => exact stepV rfl rfl (execMvB rfl (hv 0 (by decide) _ rfl _ rfl)) ⟨s, ⟨_, rfl, rfl⟩, hS, fun _ _ => rfl⟩
            | k_ + 2, h_ => exact absurd h_ (by simp)
          rintro _ a X10 h1 h2 h3 h4 hS
          clear BB
          replace hS : Below V.heap.size V X10 := hS
          have BB := hS
          clear hS
          replace t3 := (h3 3 (by decide)).trans t3
          replace t6 := (h3 6 (by decide)).trans t6
          replace t7 := (h3 7 (by decide)).trans t7
          replace t8 : a.eval (.tmp 8) = .int .i64 ((i + 1 : Nat) : Int) := h4 1 _ rfl _ rfl
          replace A := (⟨h1, h2.trans A.2⟩ : a.tmps.size = 25 ∧ a.defers = [])
          clear h1 h2 h3 h4
          exact ⟨⟨i + 1, lti, fun j hj => (if q : j = i then by subst q; omega else hgd j (by omega)), by omega, A, t3, t6, t7, t8, BB⟩, by show J - (intOf (a.eval (.tmp 8))).toNat < J - (intOf (Act.eval _ (.tmp 8))).toNat; rw [t8, esi]; show J - (i + 1) < J - i; omega⟩
  · rw [decide_eq_false lti] at t9
    refine wp_cond_false t9 ?_
    refine wp_exit ?_
    first | with_reducible refine exit_in ?_ | with_reducible refine exit_then (exit_in ?_) | with_reducible refine exit_then (exit_then (exit_in ?_)) | refine exit_in ?_ | refine exit_then (exit_in ?_) | refine exit_then (exit_then (exit_in ?_))
    clear t9 esi
    have hiJ : i = J := by omega
    rw [hiJ] at hgd hsm
    clear t3 t6 t7 t8
    refine wp_seq ?_
    refine wp_region_sq (σ := Unit) 25 [(0, 2)] (fun j_ s X => match j_ with | 0 => Below V.heap.size V X | _ => Below V.heap.size V X) (fun s => fun i_ => match i_ with | 0 => .bool false | _ => undef) () A.1 (by kernel_rfl) (by decide) (by decide) (BB) ?_ ?_
    · intro i_ hi_ s a X hf hv hn hS
      match i_, hi_ with
      | 0, _ => exact stepV rfl rfl (execAsgB rfl rfl) ⟨s, ⟨_, rfl, rfl⟩, hS, fun _ _ => rfl⟩
      | k_ + 1, h_ => exact absurd h_ (by simp)
    rintro _ a X11 h1 h2 h3 h4 hS
    clear BB
    replace hS : Below V.heap.size V X11 := hS
    have BB := hS
    clear hS
    have t2 : a.eval (.tmp 2) = .bool false := h4 0 _ rfl _ rfl
    replace A := (⟨h1, h2.trans A.2⟩ : a.tmps.size = 25 ∧ a.defers = [])
    clear h1 h2 h3 h4
    refine wp_ret ?_
    refine bodyPost_ret (results_tmp rfl _ _ _) A.2 ⟨false, ?_, fun _ => ⟨hgd, hsm⟩, BB⟩
    show Ending.returned (a.eval (.tmp 2)) = _
    rw [t2]
set_option maxRecDepth 100000 in
set_option maxHeartbeats 4000000 in
/-- The law's chunksOf. -/
theorem chunksOf_any (lf : Nat → Int) (J : Nat) (v : Value) (V : World) (FI : SliceI V v J lf) (hG : GoodL lf J) :
    Calls Try.prog 24 #[v] V fun e w' => ∃ r gb cp, e = .returned r ∧ FmT V.heap.size J gb cp (gN lf) (chH (gN lf)) w' ∧ w'.ownsRow V.heap.size 55 1 r J (lL (xT gb cp (gN lf)) J) ∧ Below V.heap.size V w' := by
  have hJ20 : J ≤ 1048576 := by have := hG.2; omega
  go_enter Try.func24, Try.ntmps24
  refine wp_seq ?_
  refine wp_region_sqK 37 [(0, 2)] (fun i_ => match i_ with | 0 => .slice none 0 0 | _ => undef) rfl (by kernel_rfl) (by decide) (by decide) ?_ ?_
  · intro i_ hi_ a hf hv hn
    match i_, hi_ with
    | 0, _ => exact stepV rfl rfl (execAsgB rfl rfl) ⟨⟨_, rfl, rfl⟩, rfl⟩
    | k_ + 1, h_ => exact absurd h_ (by simp)
  intro a h1 h2 h3 h4
  have t0 : a.eval (.tmp 0) = v := (h3 0 (by decide)).trans rfl
  have A : a.tmps.size = 37 ∧ a.defers = [] := ⟨h1, h2⟩
  have BW : Below V.heap.size V V := Below.refl _ _
  clear h1 h2 h3 h4
  have BB := BW
  refine wp_seq ?_
  refine wp_region_sq (σ := Unit) 37 [(0, 3)] (fun j_ s X => match j_ with | 0 => Below V.heap.size V X | _ => Below V.heap.size V X) (fun s => fun i_ => match i_ with | 0 => .slice none 0 0 | _ => undef) () A.1 (by kernel_rfl) (by decide) (by decide) (BB) ?_ ?_
  · intro i_ hi_ s a X hf hv hn hS
    match i_, hi_ with
    | 0, _ => exact stepV rfl rfl (execAsgB rfl rfl) ⟨s, ⟨_, rfl, rfl⟩, hS, fun _ _ => rfl⟩
    | k_ + 1, h_ => exact absurd h_ (by simp)
  rintro _ a X1 h1 h2 h3 h4 hS
  clear BB
  replace hS : Below V.heap.size V X1 := hS
  have BB := hS
  clear hS
  replace t0 := (h3 0 (by decide)).trans t0
  have t3 : a.eval (.tmp 3) = .slice none 0 0 := h4 0 _ rfl _ rfl
  replace A := (⟨h1, h2.trans A.2⟩ : a.tmps.size = 37 ∧ a.defers = [])
  clear h1 h2 h3 h4
  refine wp_seq ?_
  refine wp_seq ?_
  refine wp_region_sq (σ := Unit) 37 [(0, 8), (1, 9), (2, 10)] (fun j_ s X => match j_ with | 0 => Below V.heap.size V X | 1 => Below V.heap.size V X | 2 => Below V.heap.size V X | _ => Below V.heap.size V X) (fun s => fun i_ => match i_ with | 0 => v | 1 => .int .i64 ((J : Nat) : Int) | 2 => .int .i64 ((0 : Nat) : Int) | _ => undef) () A.1 (by kernel_rfl) (by decide) (by decide) (BB) ?_ ?_
  · intro i_ hi_ s a X hf hv hn hS
    match i_, hi_ with
    | 0, _ => exact stepV rfl rfl (execMvB rfl ((hf 0 (by decide)).trans t0)) ⟨s, ⟨_, rfl, rfl⟩, hS, fun _ _ => rfl⟩
    | 1, _ => exact stepV rfl rfl (execLenI (len := J) rfl (hv 0 (by decide) _ rfl _ rfl) ((FI.on hS)).shp) ⟨s, ⟨_, rfl, rfl⟩, hS, fun _ _ => rfl⟩
    | 2, _ => exact stepV rfl rfl (execMvB rfl rfl) ⟨s, ⟨_, rfl, rfl⟩, hS, fun _ _ => rfl⟩
    | k_ + 3, h_ => exact absurd h_ (by simp)
  rintro _ a X2 h1 h2 h3 h4 hS
  clear BB
  replace hS : Below V.heap.size V X2 := hS
  have BB := hS
  clear hS
  replace t3 := (h3 3 (by decide)).trans t3
  have t8 : a.eval (.tmp 8) = v := h4 0 _ rfl _ rfl
  have t9 : a.eval (.tmp 9) = .int .i64 ((J : Nat) : Int) := h4 1 _ rfl _ rfl
  have t10 : a.eval (.tmp 10) = .int .i64 ((0 : Nat) : Int) := h4 2 _ rfl _ rfl
  replace A := (⟨h1, h2.trans A.2⟩ : a.tmps.size = 37 ∧ a.defers = [])
  clear h1 h2 h3 h4
  clear t0
  have FT : (FmT V.heap.size 0 (fun _ => 0) (fun _ => 0) (gN lf) (chH (gN lf)) X2) := ⟨fun t ht => absurd ht (Nat.not_lt_zero _), fun s t hs => absurd hs (Nat.not_lt_zero _)⟩
  have FP : (X2.ownsRow V.heap.size 55 1 (.slice none 0 0) 0 (lL (xT (fun _ => 0) (fun _ => 0) (gN lf)) 0)) := World.ownsRow_nil _ _ _ _
  refine wp_block ?_
  refine wp_loop (fun a W => ∃ (j : Nat) (p : Value) (gb : Nat → Nat) (cp : Nat → Nat), j ≤ J ∧ (a.tmps.size = 37 ∧ a.defers = []) ∧ a.eval (.tmp 3) = p ∧ a.eval (.tmp 8) = v ∧ a.eval (.tmp 9) = .int .i64 ((J : Nat) : Int) ∧ a.eval (.tmp 10) = .int .i64 ((j : Nat) : Int) ∧ Below V.heap.size V W ∧ (FmT V.heap.size j (gb) (cp) (gN lf) (chH (gN lf)) W) ∧ (W.ownsRow V.heap.size 55 1 p j (lL (xT (gb) (cp) (gN lf)) j))) (fun a _ => J - (intOf (a.eval (.tmp 10))).toNat) ⟨0, _, fun _ => 0, fun _ => 0, Nat.zero_le _, A, t3, t8, t9, t10, BB, FT, FP⟩ ?_
  clear A t3 t8 t9 t10 BB FT FP a
  rintro a XL3 ⟨j, p, gb, cp, hj, A, t3, t8, t9, t10, BB, FT, FP⟩
  have esj := t10
  refine wp_seq ?_
  refine wp_region_sq (σ := Unit) 37 [(0, 11)] (fun j_ s X => match j_ with | 0 => Below V.heap.size V X ∧ (FmT V.heap.size j (gb) (cp) (gN lf) (chH (gN lf)) X) ∧ (X.ownsRow V.heap.size 55 1 p j (lL (xT (gb) (cp) (gN lf)) j)) | _ => Below V.heap.size V X ∧ (FmT V.heap.size j (gb) (cp) (gN lf) (chH (gN lf)) X) ∧ (X.ownsRow V.heap.size 55 1 p j (lL (xT (gb) (cp) (gN lf)) j))) (fun s => fun i_ => match i_ with | 0 => .bool (decide (j < J)) | _ => undef) () A.1 (by kernel_rfl) (by decide) (by decide) ⟨BB, FT, FP⟩ ?_ ?_
  · intro i_ hi_ s a X hf hv hn hS
    match i_, hi_ with
    | 0, _ => exact stepV rfl rfl (execLtW (p := j) (q := J) rfl ((hf 10 (by decide)).trans t10) ((hf 9 (by decide)).trans t9)) ⟨s, ⟨_, rfl, rfl⟩, hS, fun _ _ => rfl⟩
    | k_ + 1, h_ => exact absurd h_ (by simp)
  rintro _ a X3 h1 h2 h3 h4 hS
  clear BB
  clear FT
  clear FP
  replace hS : Below V.heap.size V X3 ∧ (FmT V.heap.size j (gb) (cp) (gN lf) (chH (gN lf)) X3) ∧ (X3.ownsRow V.heap.size 55 1 p j (lL (xT (gb) (cp) (gN lf)) j)) := hS
  obtain ⟨BB, FT, FP⟩ := hS
  replace t3 := (h3 3 (by decide)).trans t3
  replace t8 := (h3 8 (by decide)).trans t8
  replace t9 := (h3 9 (by decide)).trans t9
  replace t10 := (h3 10 (by decide)).trans t10
  have t11 : a.eval (.tmp 11) = .bool (decide (j < J)) := h4 0 _ rfl _ rfl
  replace A := (⟨h1, h2.trans A.2⟩ : a.tmps.size = 37 ∧ a.defers = [])
  clear h1 h2 h3 h4
  refine wp_seq ?_
  by_cases ltj : j < J
  · rw [decide_eq_true ltj] at t11
    refine wp_cond_true t11 ?_
    refine wp_skip ?_
    clear t11
    refine wp_seq ?_
    refine wp_block ?_
    obtain ⟨llb, llo, llc, ell, hllb, hllc⟩ := open_sl FI (by omega)
    have cll : ∀ k, k < J → ∀ X, Below V.heap.size V X → X.cell? ⟨llb, llo + k, none⟩ = some (.int .i64 ((lf) k)) := fun k hk X hX => by rw [cell_below hX hllb]; exact hllc k hk
    have hlj := hG.1 j ltj
    obtain ⟨n, en⟩ : ∃ n : Nat, gN lf j = n := ⟨_, rfl⟩
    have en0 : lf j = (n : Int) := by rw [← en]; show lf j = (((lf j).toNat : Nat) : Int); omega
    refine wp_seq ?_
    refine wp_region_sq (σ := Unit) 37 [(0, 12), (1, 13), (2, 14), (3, 4), (4, 5)] (fun j_ s X => match j_ with | 0 => Below V.heap.size V X ∧ (FmT V.heap.size j (gb) (cp) (gN lf) (chH (gN lf)) X) ∧ (X.ownsRow V.heap.size 55 1 p j (lL (xT (gb) (cp) (gN lf)) j)) | 1 => Below V.heap.size V X ∧ (FmT V.heap.size j (gb) (cp) (gN lf) (chH (gN lf)) X) ∧ (X.ownsRow V.heap.size 55 1 p j (lL (xT (gb) (cp) (gN lf)) j)) | 2 => Below V.heap.size V X ∧ (FmT V.heap.size j (gb) (cp) (gN lf) (chH (gN lf)) X) ∧ (X.ownsRow V.heap.size 55 1 p j (lL (xT (gb) (cp) (gN lf)) j)) | 3 => Below V.heap.size V X ∧ (FmT V.heap.size j (gb) (cp) (gN lf) (chH (gN lf)) X) ∧ (X.ownsRow V.heap.size 55 1 p j (lL (xT (gb) (cp) (gN lf)) j)) | 4 => Below V.heap.size V X ∧ (FmT V.heap.size j (gb) (cp) (gN lf) (chH (gN lf)) X) ∧ (X.ownsRow V.heap.size 55 1 p j (lL (xT (gb) (cp) (gN lf)) j)) | _ => Below V.heap.size V X ∧ (FmT V.heap.size j (gb) (cp) (gN lf) (chH (gN lf)) X) ∧ (X.ownsRow V.heap.size 55 1 p j (lL (xT (gb) (cp) (gN lf)) j))) (fun s => fun i_ => match i_ with | 0 => .int .i64 ((j : Nat) : Int) | 1 => .pointer (some ⟨llb, llo + j, none⟩) | 2 => .int .i64 ((n : Nat) : Int) | 3 => .int .i64 ((j : Nat) : Int) | 4 => .int .i64 ((n : Nat) : Int) | _ => undef) () A.1 (by kernel_rfl) (by decide) (by decide) ⟨BB, FT, FP⟩ ?_ ?_
    · intro i_ hi_ s a X hf hv hn hS
      match i_, hi_ with
      | 0, _ => exact stepV rfl rfl (execMvB rfl ((hf 10 (by decide)).trans t10)) ⟨s, ⟨_, rfl, rfl⟩, hS, fun _ _ => rfl⟩
      | 1, _ => exact stepV rfl rfl (execIdxN (k := j) rfl (((hf 8 (by decide)).trans t8).trans ell) ((hf 10 (by decide)).trans t10) ltj) ⟨s, ⟨_, rfl, rfl⟩, hS, fun _ _ => rfl⟩
      | 2, _ => exact stepV rfl rfl (execLd3 rfl (hv 1 (by decide) _ rfl _ rfl) ((cll j ltj X hS.1).trans (by rw [en0]))) ⟨s, ⟨_, rfl, rfl⟩, hS, fun _ _ => rfl⟩
      | 3, _ => exact stepV rfl rfl (execAsgB rfl (hv 0 (by decide) _ rfl _ rfl)) ⟨s, ⟨_, rfl, rfl⟩, hS, fun _ _ => rfl⟩
      | 4, _ => exact stepV rfl rfl (execAsgB rfl (hv 2 (by decide) _ rfl _ rfl)) ⟨s, ⟨_, rfl, rfl⟩, hS, fun _ _ => rfl⟩
      | k_ + 5, h_ => exact absurd h_ (by simp)
    rintro _ a X4 h1 h2 h3 h4 hS
    clear BB
    clear FT
    clear FP
    replace hS : Below V.heap.size V X4 ∧ (FmT V.heap.size j (gb) (cp) (gN lf) (chH (gN lf)) X4) ∧ (X4.ownsRow V.heap.size 55 1 p j (lL (xT (gb) (cp) (gN lf)) j)) := hS
    obtain ⟨BB, FT, FP⟩ := hS
    replace t3 := (h3 3 (by decide)).trans t3
    replace t8 := (h3 8 (by decide)).trans t8
    replace t9 := (h3 9 (by decide)).trans t9
    replace t10 := (h3 10 (by decide)).trans t10
    have t4 : a.eval (.tmp 4) = .int .i64 ((j : Nat) : Int) := h4 3 _ rfl _ rfl
    have t5 : a.eval (.tmp 5) = .int .i64 ((n : Nat) : Int) := h4 4 _ rfl _ rfl
    replace A := (⟨h1, h2.trans A.2⟩ : a.tmps.size = 37 ∧ a.defers = [])
    clear h1 h2 h3 h4
    refine wp_seq ?_
    refine wp_region_sq (σ := Unit) 37 [(0, 6)] (fun j_ s X => match j_ with | 0 => Below V.heap.size V X ∧ (FmT V.heap.size j (gb) (cp) (gN lf) (chH (gN lf)) X) ∧ (X.ownsRow V.heap.size 55 1 p j (lL (xT (gb) (cp) (gN lf)) j)) | _ => Below V.heap.size V X ∧ (FmT V.heap.size j (gb) (cp) (gN lf) (chH (gN lf)) X) ∧ (X.ownsRow V.heap.size 55 1 p j (lL (xT (gb) (cp) (gN lf)) j))) (fun s => fun i_ => match i_ with | 0 => .slice none 0 0 | _ => undef) () A.1 (by kernel_rfl) (by decide) (by decide) ⟨BB, FT, FP⟩ ?_ ?_
    · intro i_ hi_ s a X hf hv hn hS
      match i_, hi_ with
      | 0, _ => exact stepV rfl rfl (execAsgB rfl rfl) ⟨s, ⟨_, rfl, rfl⟩, hS, fun _ _ => rfl⟩
      | k_ + 1, h_ => exact absurd h_ (by simp)
    rintro _ a X5 h1 h2 h3 h4 hS
    clear BB
    clear FT
    clear FP
    replace hS : Below V.heap.size V X5 ∧ (FmT V.heap.size j (gb) (cp) (gN lf) (chH (gN lf)) X5) ∧ (X5.ownsRow V.heap.size 55 1 p j (lL (xT (gb) (cp) (gN lf)) j)) := hS
    obtain ⟨BB, FT, FP⟩ := hS
    replace t3 := (h3 3 (by decide)).trans t3
    replace t8 := (h3 8 (by decide)).trans t8
    replace t9 := (h3 9 (by decide)).trans t9
    replace t10 := (h3 10 (by decide)).trans t10
    replace t4 := (h3 4 (by decide)).trans t4
    replace t5 := (h3 5 (by decide)).trans t5
    have t6 : a.eval (.tmp 6) = .slice none 0 0 := h4 0 _ rfl _ rfl
    replace A := (⟨h1, h2.trans A.2⟩ : a.tmps.size = 37 ∧ a.defers = [])
    clear h1 h2 h3 h4
    refine wp_seq ?_
    refine wp_seq ?_
    refine wp_region_sq (σ := Unit) 37 [(0, 15), (1, 16)] (fun j_ s X => match j_ with | 0 => Below V.heap.size V X ∧ (FmT V.heap.size j (gb) (cp) (gN lf) (chH (gN lf)) X) ∧ (X.ownsRow V.heap.size 55 1 p j (lL (xT (gb) (cp) (gN lf)) j)) | 1 => Below V.heap.size V X ∧ (FmT V.heap.size j (gb) (cp) (gN lf) (chH (gN lf)) X) ∧ (X.ownsRow V.heap.size 55 1 p j (lL (xT (gb) (cp) (gN lf)) j)) | _ => Below V.heap.size V X ∧ (FmT V.heap.size j (gb) (cp) (gN lf) (chH (gN lf)) X) ∧ (X.ownsRow V.heap.size 55 1 p j (lL (xT (gb) (cp) (gN lf)) j))) (fun s => fun i_ => match i_ with | 0 => .int .i64 ((n : Nat) : Int) | 1 => .int .i64 ((0 : Nat) : Int) | _ => undef) () A.1 (by kernel_rfl) (by decide) (by decide) ⟨BB, FT, FP⟩ ?_ ?_
    · intro i_ hi_ s a X hf hv hn hS
      match i_, hi_ with
      | 0, _ => exact stepV rfl rfl (execMvB rfl ((hf 5 (by decide)).trans t5)) ⟨s, ⟨_, rfl, rfl⟩, hS, fun _ _ => rfl⟩
      | 1, _ => exact stepV rfl rfl (execMvB rfl rfl) ⟨s, ⟨_, rfl, rfl⟩, hS, fun _ _ => rfl⟩
      | k_ + 2, h_ => exact absurd h_ (by simp)
    rintro _ a X6 h1 h2 h3 h4 hS
    clear BB
    clear FT
    clear FP
    replace hS : Below V.heap.size V X6 ∧ (FmT V.heap.size j (gb) (cp) (gN lf) (chH (gN lf)) X6) ∧ (X6.ownsRow V.heap.size 55 1 p j (lL (xT (gb) (cp) (gN lf)) j)) := hS
    obtain ⟨BB, FT, FP⟩ := hS
    replace t3 := (h3 3 (by decide)).trans t3
    replace t8 := (h3 8 (by decide)).trans t8
    replace t9 := (h3 9 (by decide)).trans t9
    replace t10 := (h3 10 (by decide)).trans t10
    replace t4 := (h3 4 (by decide)).trans t4
    replace t5 := (h3 5 (by decide)).trans t5
    replace t6 := (h3 6 (by decide)).trans t6
    have t15 : a.eval (.tmp 15) = .int .i64 ((n : Nat) : Int) := h4 0 _ rfl _ rfl
    have t16 : a.eval (.tmp 16) = .int .i64 ((0 : Nat) : Int) := h4 1 _ rfl _ rfl
    replace A := (⟨h1, h2.trans A.2⟩ : a.tmps.size = 37 ∧ a.defers = [])
    clear h1 h2 h3 h4
    have hBC := BB.size
    have hlt : ∀ t, t < j → gb t < X6.heap.size := fun t ht => ((FT.rows t ht).lt (gb t) rfl).2
    have FL : X6.ownsRow X6.heap.size 59 2 (.slice none 0 0) 0 (intsL (0 * 2) (chH (gN lf) j)) := World.ownsRow_nil _ _ _ _
    have FC : X6.heap.size ≤ X6.heap.size := Nat.le_refl _
    refine wp_block ?_
    refine wp_loop (fun a W => ∃ (i : Nat) (l : Value), i ≤ n ∧ (a.tmps.size = 37 ∧ a.defers = []) ∧ a.eval (.tmp 3) = p ∧ a.eval (.tmp 8) = v ∧ a.eval (.tmp 9) = .int .i64 ((J : Nat) : Int) ∧ a.eval (.tmp 10) = .int .i64 ((j : Nat) : Int) ∧ a.eval (.tmp 4) = .int .i64 ((j : Nat) : Int) ∧ a.eval (.tmp 5) = .int .i64 ((n : Nat) : Int) ∧ a.eval (.tmp 6) = l ∧ a.eval (.tmp 15) = .int .i64 ((n : Nat) : Int) ∧ a.eval (.tmp 16) = .int .i64 ((i : Nat) : Int) ∧ Below V.heap.size V W ∧ (FmT V.heap.size j (gb) (cp) (gN lf) (chH (gN lf)) W) ∧ (W.ownsRow V.heap.size 55 1 p j (lL (xT (gb) (cp) (gN lf)) j)) ∧ (W.ownsRow X6.heap.size 59 2 l i (intsL (i * 2) (chH (gN lf) j))) ∧ (X6.heap.size ≤ W.heap.size)) (fun a _ => n - (intOf (a.eval (.tmp 16))).toNat) ⟨0, _, Nat.zero_le _, A, t3, t8, t9, t10, t4, t5, t6, t15, t16, BB, FT, FP, FL, FC⟩ ?_
    clear A t3 t8 t9 t10 t4 t5 t6 t15 t16 BB FT FP FL FC a
    rintro a XL7 ⟨i, l, hi, A, t3, t8, t9, t10, t4, t5, t6, t15, t16, BB, FT, FP, FL, FC⟩
    have esi := t16
    refine wp_seq ?_
    refine wp_region_sq (σ := Unit) 37 [(0, 17)] (fun j_ s X => match j_ with | 0 => Below V.heap.size V X ∧ (FmT V.heap.size j (gb) (cp) (gN lf) (chH (gN lf)) X) ∧ (X.ownsRow V.heap.size 55 1 p j (lL (xT (gb) (cp) (gN lf)) j)) ∧ (X.ownsRow X6.heap.size 59 2 l i (intsL (i * 2) (chH (gN lf) j))) ∧ (X6.heap.size ≤ X.heap.size) | _ => Below V.heap.size V X ∧ (FmT V.heap.size j (gb) (cp) (gN lf) (chH (gN lf)) X) ∧ (X.ownsRow V.heap.size 55 1 p j (lL (xT (gb) (cp) (gN lf)) j)) ∧ (X.ownsRow X6.heap.size 59 2 l i (intsL (i * 2) (chH (gN lf) j))) ∧ (X6.heap.size ≤ X.heap.size)) (fun s => fun i_ => match i_ with | 0 => .bool (decide (i < n)) | _ => undef) () A.1 (by kernel_rfl) (by decide) (by decide) ⟨BB, FT, FP, FL, FC⟩ ?_ ?_
    · intro i_ hi_ s a X hf hv hn hS
      match i_, hi_ with
      | 0, _ => exact stepV rfl rfl (execLtW (p := i) (q := n) rfl ((hf 16 (by decide)).trans t16) ((hf 15 (by decide)).trans t15)) ⟨s, ⟨_, rfl, rfl⟩, hS, fun _ _ => rfl⟩
      | k_ + 1, h_ => exact absurd h_ (by simp)
    rintro _ a X7 h1 h2 h3 h4 hS
    clear BB
    clear FT
    clear FP
    clear FL
    clear FC
    replace hS : Below V.heap.size V X7 ∧ (FmT V.heap.size j (gb) (cp) (gN lf) (chH (gN lf)) X7) ∧ (X7.ownsRow V.heap.size 55 1 p j (lL (xT (gb) (cp) (gN lf)) j)) ∧ (X7.ownsRow X6.heap.size 59 2 l i (intsL (i * 2) (chH (gN lf) j))) ∧ (X6.heap.size ≤ X7.heap.size) := hS
    obtain ⟨BB, FT, FP, FL, FC⟩ := hS
    replace t3 := (h3 3 (by decide)).trans t3
    replace t8 := (h3 8 (by decide)).trans t8
    replace t9 := (h3 9 (by decide)).trans t9
    replace t10 := (h3 10 (by decide)).trans t10
    replace t4 := (h3 4 (by decide)).trans t4
    replace t5 := (h3 5 (by decide)).trans t5
    replace t6 := (h3 6 (by decide)).trans t6
    replace t15 := (h3 15 (by decide)).trans t15
    replace t16 := (h3 16 (by decide)).trans t16
    have t17 : a.eval (.tmp 17) = .bool (decide (i < n)) := h4 0 _ rfl _ rfl
    replace A := (⟨h1, h2.trans A.2⟩ : a.tmps.size = 37 ∧ a.defers = [])
    clear h1 h2 h3 h4
    refine wp_seq ?_
    by_cases lti : i < n
    · rw [decide_eq_true lti] at t17
      refine wp_cond_true t17 ?_
      refine wp_skip ?_
      clear t17
      refine wp_seq ?_
      refine wp_block ?_
      refine wp_seq ?_
      refine wp_region_sq (σ := Unit) 37 [(0, 18), (1, 7)] (fun j_ s X => match j_ with | 0 => Below V.heap.size V X ∧ (FmT V.heap.size j (gb) (cp) (gN lf) (chH (gN lf)) X) ∧ (X.ownsRow V.heap.size 55 1 p j (lL (xT (gb) (cp) (gN lf)) j)) ∧ (X.ownsRow X6.heap.size 59 2 l i (intsL (i * 2) (chH (gN lf) j))) ∧ (X6.heap.size ≤ X.heap.size) | 1 => Below V.heap.size V X ∧ (FmT V.heap.size j (gb) (cp) (gN lf) (chH (gN lf)) X) ∧ (X.ownsRow V.heap.size 55 1 p j (lL (xT (gb) (cp) (gN lf)) j)) ∧ (X.ownsRow X6.heap.size 59 2 l i (intsL (i * 2) (chH (gN lf) j))) ∧ (X6.heap.size ≤ X.heap.size) | _ => Below V.heap.size V X ∧ (FmT V.heap.size j (gb) (cp) (gN lf) (chH (gN lf)) X) ∧ (X.ownsRow V.heap.size 55 1 p j (lL (xT (gb) (cp) (gN lf)) j)) ∧ (X.ownsRow X6.heap.size 59 2 l i (intsL (i * 2) (chH (gN lf) j))) ∧ (X6.heap.size ≤ X.heap.size)) (fun s => fun i_ => match i_ with | 0 => .int .i64 ((i : Nat) : Int) | 1 => .int .i64 ((i : Nat) : Int) | _ => undef) () A.1 (by kernel_rfl) (by decide) (by decide) ⟨BB, FT, FP, FL, FC⟩ ?_ ?_
      · intro i_ hi_ s a X hf hv hn hS
        match i_, hi_ with
        | 0, _ => exact stepV rfl rfl (execMvB rfl ((hf 16 (by decide)).trans t16)) ⟨s, ⟨_, rfl, rfl⟩, hS, fun _ _ => rfl⟩
        | 1, _ => exact stepV rfl rfl (execAsgB rfl (hv 0 (by decide) _ rfl _ rfl)) ⟨s, ⟨_, rfl, rfl⟩, hS, fun _ _ => rfl⟩
        | k_ + 2, h_ => exact absurd h_ (by simp)
      rintro _ a X8 h1 h2 h3 h4 hS
      clear BB
      clear FT
      clear FP
      clear FL
      clear FC
      replace hS : Below V.heap.size V X8 ∧ (FmT V.heap.size j (gb) (cp) (gN lf) (chH (gN lf)) X8) ∧ (X8.ownsRow V.heap.size 55 1 p j (lL (xT (gb) (cp) (gN lf)) j)) ∧ (X8.ownsRow X6.heap.size 59 2 l i (intsL (i * 2) (chH (gN lf) j))) ∧ (X6.heap.size ≤ X8.heap.size) := hS
      obtain ⟨BB, FT, FP, FL, FC⟩ := hS
      replace t3 := (h3 3 (by decide)).trans t3
      replace t8 := (h3 8 (by decide)).trans t8
      replace t9 := (h3 9 (by decide)).trans t9
      replace t10 := (h3 10 (by decide)).trans t10
      replace t4 := (h3 4 (by decide)).trans t4
      replace t5 := (h3 5 (by decide)).trans t5
      replace t6 := (h3 6 (by decide)).trans t6
      replace t15 := (h3 15 (by decide)).trans t15
      replace t16 := (h3 16 (by decide)).trans t16
      have t7 : a.eval (.tmp 7) = .int .i64 ((i : Nat) : Int) := h4 1 _ rfl _ rfl
      replace A := (⟨h1, h2.trans A.2⟩ : a.tmps.size = 37 ∧ a.defers = [])
      clear h1 h2 h3 h4
      refine wp_region_sq (σ := Nat × Value) 37 [(0, 19), (1, 20), (2, 21), (3, 22), (4, 23), (5, 24), (6, 6)] (fun j_ s X => match j_ with | 0 => Below V.heap.size V X ∧ (FmT V.heap.size j (gb) (cp) (gN lf) (chH (gN lf)) X) ∧ (X.ownsRow V.heap.size 55 1 p j (lL (xT (gb) (cp) (gN lf)) j)) ∧ (X.ownsRow X6.heap.size 59 2 l i (intsL (i * 2) (chH (gN lf) j))) ∧ (X6.heap.size ≤ X.heap.size) | 1 => Below V.heap.size V X ∧ (FmT V.heap.size j (gb) (cp) (gN lf) (chH (gN lf)) X) ∧ (X.ownsRow V.heap.size 55 1 p j (lL (xT (gb) (cp) (gN lf)) j)) ∧ (X.ownsRow X6.heap.size 59 2 l i (intsL (i * 2) (chH (gN lf) j))) ∧ (X6.heap.size ≤ X.heap.size) | 2 => Below V.heap.size V X ∧ (FmT V.heap.size j (gb) (cp) (gN lf) (chH (gN lf)) X) ∧ (X.ownsRow V.heap.size 55 1 p j (lL (xT (gb) (cp) (gN lf)) j)) ∧ (X.ownsRow X6.heap.size 59 2 l i (intsL (i * 2) (chH (gN lf) j))) ∧ (X6.heap.size ≤ X.heap.size) | 3 => Below V.heap.size V X ∧ (FmT V.heap.size j (gb) (cp) (gN lf) (chH (gN lf)) X) ∧ (X.ownsRow V.heap.size 55 1 p j (lL (xT (gb) (cp) (gN lf)) j)) ∧ (X.ownsRow X6.heap.size 59 2 l i (intsL (i * 2) (chH (gN lf) j))) ∧ (X6.heap.size ≤ X.heap.size) | 4 => Below V.heap.size V X ∧ (FmT V.heap.size j (gb) (cp) (gN lf) (chH (gN lf)) X) ∧ (X.ownsRow V.heap.size 55 1 p j (lL (xT (gb) (cp) (gN lf)) j)) ∧ (X.ownsRow X6.heap.size 59 2 l i (intsL (i * 2) (chH (gN lf) j))) ∧ (X6.heap.size ≤ X.heap.size) | 5 => Below V.heap.size V X ∧ (FmT V.heap.size j (gb) (cp) (gN lf) (chH (gN lf)) X) ∧ (X.ownsRow V.heap.size 55 1 p j (lL (xT (gb) (cp) (gN lf)) j)) ∧ (X.ownsRow X6.heap.size 59 2 l i (intsL (i * 2) (chH (gN lf) j))) ∧ (X6.heap.size ≤ X.heap.size) ∧ (X.heap[s.1]? = some (.cells (thC ((j : Int)) ((i : Int))) 59)) | 6 => Below V.heap.size V X ∧ (FmT V.heap.size j (gb) (cp) (gN lf) (chH (gN lf)) X) ∧ (X.ownsRow V.heap.size 55 1 p j (lL (xT (gb) (cp) (gN lf)) j)) ∧ (X6.heap.size ≤ X.heap.size) ∧ (X.ownsRow X6.heap.size 59 2 s.2 (i + 1) (intsL ((i + 1) * 2) (chH (gN lf) j))) | _ => Below V.heap.size V X ∧ (FmT V.heap.size j (gb) (cp) (gN lf) (chH (gN lf)) X) ∧ (X.ownsRow V.heap.size 55 1 p j (lL (xT (gb) (cp) (gN lf)) j)) ∧ (X6.heap.size ≤ X.heap.size) ∧ (X.ownsRow X6.heap.size 59 2 s.2 (i + 1) (intsL ((i + 1) * 2) (chH (gN lf) j)))) (fun s => fun i_ => match i_ with | 0 => l | 1 => .int .i64 ((j : Nat) : Int) | 2 => .int .i64 ((i : Nat) : Int) | 3 => .agg (thC ((j : Int)) ((i : Int))) | 4 => .slice (some ⟨s.1, 0, none⟩) 1 1 | 5 => s.2 | 6 => s.2 | _ => undef) (0, undef) A.1 (by kernel_rfl) (by decide) (by decide) ⟨BB, FT, FP, FL, FC⟩ ?_ ?_
      · intro i_ hi_ s a X hf hv hn hS
        match i_, hi_ with
        | 0, _ => exact stepV rfl rfl (execMvB rfl ((hn 6 (by decide) _ rfl _ rfl).trans t6)) ⟨s, ⟨_, rfl, rfl⟩, hS, fun _ _ => rfl⟩
        | 1, _ => exact stepV rfl rfl (execMvB rfl ((hf 4 (by decide)).trans t4)) ⟨s, ⟨_, rfl, rfl⟩, hS, fun _ _ => rfl⟩
        | 2, _ => exact stepV rfl rfl (execMvB rfl ((hf 7 (by decide)).trans t7)) ⟨s, ⟨_, rfl, rfl⟩, hS, fun _ _ => rfl⟩
        | 3, _ => exact stepV rfl rfl (execBdTh (p := (j : Int)) (q := (i : Int)) rfl (hv 1 (by decide) _ rfl _ rfl) (hv 2 (by decide) _ rfl _ rfl)) ⟨s, ⟨_, rfl, rfl⟩, hS, fun _ _ => rfl⟩
        | 4, _ =>
          refine stepV rfl rfl (execBs1Th rfl (hv 3 (by decide) _ rfl _ rfl)) ⟨(X.heap.size, s.2), ⟨_, rfl, rfl⟩, ⟨(hS.1).trans (((belNew X _)).mono (hS.1).size), (hS.2.1.on (belNew X _)), (ownD_below hS.2.2.1 (belNew X _)), (ownD_below hS.2.2.2.1 (belNew X _)), (Nat.le_trans hS.2.2.2.2 ((belNew X _)).size), heapNew X _⟩, fun i hi => ?_⟩
          match i, hi with
          | 0, _ => rfl
          | 1, _ => rfl
          | 2, _ => rfl
          | 3, _ => rfl
          | n_ + 4, h_ => omega
        | 5, _ =>
          refine stepAppTh (h := chH (gN lf) j) rfl rfl rfl (hv 0 (by decide) _ rfl _ rfl) (hv 4 (by decide) _ rfl _ rfl) hS.2.2.2.1 (by rw [chH_0 (by omega), chH_1 (by omega)]; exact hS.2.2.2.2.2) (by omega) hS.2.2.2.2.1 fun v' W' own' gr => ⟨(s.1, v'), ⟨_, rfl, rfl⟩, ⟨(hS.1).grown gr (hS.1).size (fun k hk => Nat.le_trans hBC (hS.2.2.2.1.lt k hk).1), hS.2.1.over hlt hS.2.2.2.1 gr, own_overT hS.2.2.1 hS.2.2.2.1 gr (by decide), Nat.le_trans hS.2.2.2.2.1 gr.size, own'⟩, fun i hi => ?_⟩
          match i, hi with
          | 0, _ => rfl
          | 1, _ => rfl
          | 2, _ => rfl
          | 3, _ => rfl
          | 4, _ => rfl
          | n_ + 5, h_ => omega
        | 6, _ => exact stepV rfl rfl (execAsgB rfl (hv 5 (by decide) _ rfl _ rfl)) ⟨s, ⟨_, rfl, rfl⟩, hS, fun _ _ => rfl⟩
        | k_ + 7, h_ => exact absurd h_ (by simp)
      rintro ⟨g23, v24⟩ a X9 h1 h2 h3 h4 hS
      clear BB
      clear FT
      clear FP
      clear FL
      clear FC
      replace hS : Below V.heap.size V X9 ∧ (FmT V.heap.size j (gb) (cp) (gN lf) (chH (gN lf)) X9) ∧ (X9.ownsRow V.heap.size 55 1 p j (lL (xT (gb) (cp) (gN lf)) j)) ∧ (X6.heap.size ≤ X9.heap.size) ∧ (X9.ownsRow X6.heap.size 59 2 v24 (i + 1) (intsL ((i + 1) * 2) (chH (gN lf) j))) := hS
      obtain ⟨BB, FT, FP, FC, FL2⟩ := hS
      replace t3 := (h3 3 (by decide)).trans t3
      replace t8 := (h3 8 (by decide)).trans t8
      replace t9 := (h3 9 (by decide)).trans t9
      replace t10 := (h3 10 (by decide)).trans t10
      replace t4 := (h3 4 (by decide)).trans t4
      replace t5 := (h3 5 (by decide)).trans t5
      replace t6 : a.eval (.tmp 6) = v24 := h4 6 _ rfl _ rfl
      replace t15 := (h3 15 (by decide)).trans t15
      replace t16 := (h3 16 (by decide)).trans t16
      replace A := (⟨h1, h2.trans A.2⟩ : a.tmps.size = 37 ∧ a.defers = [])
      clear h1 h2 h3 h4
      clear t7
      refine wp_region_sq (σ := Unit) 37 [(0, 25), (1, 16)] (fun j_ s X => match j_ with | 0 => Below V.heap.size V X ∧ (FmT V.heap.size j (gb) (cp) (gN lf) (chH (gN lf)) X) ∧ (X.ownsRow V.heap.size 55 1 p j (lL (xT (gb) (cp) (gN lf)) j)) ∧ (X6.heap.size ≤ X.heap.size) ∧ (X.ownsRow X6.heap.size 59 2 v24 (i + 1) (intsL ((i + 1) * 2) (chH (gN lf) j))) | 1 => Below V.heap.size V X ∧ (FmT V.heap.size j (gb) (cp) (gN lf) (chH (gN lf)) X) ∧ (X.ownsRow V.heap.size 55 1 p j (lL (xT (gb) (cp) (gN lf)) j)) ∧ (X6.heap.size ≤ X.heap.size) ∧ (X.ownsRow X6.heap.size 59 2 v24 (i + 1) (intsL ((i + 1) * 2) (chH (gN lf) j))) | _ => Below V.heap.size V X ∧ (FmT V.heap.size j (gb) (cp) (gN lf) (chH (gN lf)) X) ∧ (X.ownsRow V.heap.size 55 1 p j (lL (xT (gb) (cp) (gN lf)) j)) ∧ (X6.heap.size ≤ X.heap.size) ∧ (X.ownsRow X6.heap.size 59 2 v24 (i + 1) (intsL ((i + 1) * 2) (chH (gN lf) j)))) (fun s => fun i_ => match i_ with | 0 => .int .i64 ((i + 1 : Nat) : Int) | 1 => .int .i64 ((i + 1 : Nat) : Int) | _ => undef) () A.1 (by kernel_rfl) (by decide) (by decide) ⟨BB, FT, FP, FC, FL2⟩ ?_ ?_
      · intro i_ hi_ s a X hf hv hn hS
        match i_, hi_ with
        | 0, _ => exact stepV rfl rfl (execAd8 (p := i) (q := 1) rfl ((hn 1 (by decide) _ rfl _ rfl).trans t16) rfl (by omega)) ⟨s, ⟨_, rfl, rfl⟩, hS, fun _ _ => rfl⟩
        | 1, _ => exact stepV rfl rfl (execMvB rfl (hv 0 (by decide) _ rfl _ rfl)) ⟨s, ⟨_, rfl, rfl⟩, hS, fun _ _ => rfl⟩
        | k_ + 2, h_ => exact absurd h_ (by simp)
      rintro _ a X10 h1 h2 h3 h4 hS
      clear BB
      clear FT
      clear FP
      clear FC
      clear FL2
      replace hS : Below V.heap.size V X10 ∧ (FmT V.heap.size j (gb) (cp) (gN lf) (chH (gN lf)) X10) ∧ (X10.ownsRow V.heap.size 55 1 p j (lL (xT (gb) (cp) (gN lf)) j)) ∧ (X6.heap.size ≤ X10.heap.size) ∧ (X10.ownsRow X6.heap.size 59 2 v24 (i + 1) (intsL ((i + 1) * 2) (chH (gN lf) j))) := hS
      obtain ⟨BB, FT, FP, FC, FL2⟩ := hS
      replace t3 := (h3 3 (by decide)).trans t3
      replace t8 := (h3 8 (by decide)).trans t8
      replace t9 := (h3 9 (by decide)).trans t9
      replace t10 := (h3 10 (by decide)).trans t10
      replace t4 := (h3 4 (by decide)).trans t4
      replace t5 := (h3 5 (by decide)).trans t5
      replace t6 := (h3 6 (by decide)).trans t6
      replace t15 := (h3 15 (by decide)).trans t15
      replace t16 : a.eval (.tmp 16) = .int .i64 ((i + 1 : Nat) : Int) := h4 1 _ rfl _ rfl
      replace A := (⟨h1, h2.trans A.2⟩ : a.tmps.size = 37 ∧ a.defers = [])
      clear h1 h2 h3 h4
      exact ⟨⟨i + 1, _, lti, A, t3, t8, t9, t10, t4, t5, t6, t15, t16, BB, FT, FP, FL2, FC⟩, by show n - (intOf (a.eval (.tmp 16))).toNat < n - (intOf (Act.eval _ (.tmp 16))).toNat; rw [t16, esi]; show n - (i + 1) < n - i; omega⟩
    · rw [decide_eq_false lti] at t17
      refine wp_cond_false t17 ?_
      refine wp_exit ?_
      first | with_reducible refine exit_in ?_ | with_reducible refine exit_then (exit_in ?_) | with_reducible refine exit_then (exit_then (exit_in ?_)) | refine exit_in ?_ | refine exit_then (exit_in ?_) | refine exit_then (exit_then (exit_in ?_))
      clear t17 esi
      have hin : i = n := by omega
      rw [hin] at FL
      clear t15 t16
      refine wp_region_sq (σ := Nat × Nat × Nat × Nat × Value) 37 [(0, 26), (1, 27), (2, 28), (3, 29), (4, 30), (5, 31), (6, 32), (7, 33), (8, 34), (9, 3)] (fun j_ s X => match j_ with | 0 => Below V.heap.size V X ∧ (FmT V.heap.size j (gb) (cp) (gN lf) (chH (gN lf)) X) ∧ (X.ownsRow V.heap.size 55 1 p j (lL (xT (gb) (cp) (gN lf)) j)) ∧ (X.ownsRow X6.heap.size 59 2 l n (intsL (n * 2) (chH (gN lf) j))) ∧ (X6.heap.size ≤ X.heap.size) | 1 => Below V.heap.size V X ∧ (FmT V.heap.size j (gb) (cp) (gN lf) (chH (gN lf)) X) ∧ (X.ownsRow V.heap.size 55 1 p j (lL (xT (gb) (cp) (gN lf)) j)) ∧ (X.ownsRow X6.heap.size 59 2 l n (intsL (n * 2) (chH (gN lf) j))) ∧ (X6.heap.size ≤ X.heap.size) | 2 => Below V.heap.size V X ∧ (FmT V.heap.size j (gb) (cp) (gN lf) (chH (gN lf)) X) ∧ (X.ownsRow V.heap.size 55 1 p j (lL (xT (gb) (cp) (gN lf)) j)) ∧ (X.ownsRow X6.heap.size 59 2 l n (intsL (n * 2) (chH (gN lf) j))) ∧ (X6.heap.size ≤ X.heap.size) | 3 => Below V.heap.size V X ∧ (FmT V.heap.size j (gb) (cp) (gN lf) (chH (gN lf)) X) ∧ (X.ownsRow V.heap.size 55 1 p j (lL (xT (gb) (cp) (gN lf)) j)) ∧ (X.ownsRow X6.heap.size 59 2 l n (intsL (n * 2) (chH (gN lf) j))) ∧ (X6.heap.size ≤ X.heap.size) | 4 => Below V.heap.size V X ∧ (FmT V.heap.size j (gb) (cp) (gN lf) (chH (gN lf)) X) ∧ (X.ownsRow V.heap.size 55 1 p j (lL (xT (gb) (cp) (gN lf)) j)) ∧ (X.ownsRow X6.heap.size 59 2 l n (intsL (n * 2) (chH (gN lf) j))) ∧ (X6.heap.size ≤ X.heap.size) ∧ (X.heap[s.1]? = some (.cells (thC (-1) (-1)) 59)) | 5 => Below V.heap.size V X ∧ (FmT V.heap.size j (gb) (cp) (gN lf) (chH (gN lf)) X) ∧ (X.ownsRow V.heap.size 55 1 p j (lL (xT (gb) (cp) (gN lf)) j)) ∧ (X6.heap.size ≤ X.heap.size) ∧ (X.ownsRow X6.heap.size 59 2 (.slice (some ⟨s.2.1, 0, none⟩) (n + 1) s.2.2.1) (n + 1) (intsL ((n + 1) * 2) (chH (gN lf) j))) | 6 => Below V.heap.size V X ∧ (FmT V.heap.size j (gb) (cp) (gN lf) (chH (gN lf)) X) ∧ (X.ownsRow V.heap.size 55 1 p j (lL (xT (gb) (cp) (gN lf)) j)) ∧ (X6.heap.size ≤ X.heap.size) ∧ (X.ownsRow X6.heap.size 59 2 (.slice (some ⟨s.2.1, 0, none⟩) (n + 1) s.2.2.1) (n + 1) (intsL ((n + 1) * 2) (chH (gN lf) j))) | 7 => Below V.heap.size V X ∧ (FmT V.heap.size j (gb) (cp) (gN lf) (chH (gN lf)) X) ∧ (X.ownsRow V.heap.size 55 1 p j (lL (xT (gb) (cp) (gN lf)) j)) ∧ (X6.heap.size ≤ X.heap.size) ∧ (X.ownsRow X6.heap.size 59 2 (.slice (some ⟨s.2.1, 0, none⟩) (n + 1) s.2.2.1) (n + 1) (intsL ((n + 1) * 2) (chH (gN lf) j))) | 8 => Below V.heap.size V X ∧ (FmT V.heap.size j (gb) (cp) (gN lf) (chH (gN lf)) X) ∧ (X.ownsRow V.heap.size 55 1 p j (lL (xT (gb) (cp) (gN lf)) j)) ∧ (X6.heap.size ≤ X.heap.size) ∧ (X.ownsRow X6.heap.size 59 2 (.slice (some ⟨s.2.1, 0, none⟩) (n + 1) s.2.2.1) (n + 1) (intsL ((n + 1) * 2) (chH (gN lf) j))) ∧ (X.heap[s.2.2.2.1]? = some (.cells #[.slice (some ⟨s.2.1, 0, none⟩) n s.2.2.1] 55)) | 9 => Below V.heap.size V X ∧ (FmT V.heap.size j (gb) (cp) (gN lf) (chH (gN lf)) X) ∧ (X6.heap.size ≤ X.heap.size) ∧ (X.ownsRow X6.heap.size 59 2 (.slice (some ⟨s.2.1, 0, none⟩) (n + 1) s.2.2.1) (n + 1) (intsL ((n + 1) * 2) (chH (gN lf) j))) ∧ (X.ownsRow V.heap.size 55 1 s.2.2.2.2 (j + 1) (lL (xT (updK gb j s.2.1) (updK cp j s.2.2.1) (gN lf)) (j + 1))) | _ => Below V.heap.size V X ∧ (FmT V.heap.size j (gb) (cp) (gN lf) (chH (gN lf)) X) ∧ (X6.heap.size ≤ X.heap.size) ∧ (X.ownsRow X6.heap.size 59 2 (.slice (some ⟨s.2.1, 0, none⟩) (n + 1) s.2.2.1) (n + 1) (intsL ((n + 1) * 2) (chH (gN lf) j))) ∧ (X.ownsRow V.heap.size 55 1 s.2.2.2.2 (j + 1) (lL (xT (updK gb j s.2.1) (updK cp j s.2.2.1) (gN lf)) (j + 1)))) (fun s => fun i_ => match i_ with | 0 => p | 1 => l | 2 => .agg (thC (-1) (-1)) | 3 => .slice (some ⟨s.1, 0, none⟩) 1 1 | 4 => .slice (some ⟨s.2.1, 0, none⟩) (n + 1) s.2.2.1 | 5 => .int .i64 ((n : Nat) : Int) | 6 => .slice (some ⟨s.2.1, 0, none⟩) n s.2.2.1 | 7 => .slice (some ⟨s.2.2.2.1, 0, none⟩) 1 1 | 8 => s.2.2.2.2 | 9 => s.2.2.2.2 | _ => undef) (0, 0, 0, 0, undef) A.1 (by kernel_rfl) (by decide) (by decide) ⟨BB, FT, FP, FL, FC⟩ ?_ ?_
      · intro i_ hi_ s a X hf hv hn hS
        match i_, hi_ with
        | 0, _ => exact stepV rfl rfl (execMvB rfl ((hn 9 (by decide) _ rfl _ rfl).trans t3)) ⟨s, ⟨_, rfl, rfl⟩, hS, fun _ _ => rfl⟩
        | 1, _ => exact stepV rfl rfl (execMvB rfl ((hf 6 (by decide)).trans t6)) ⟨s, ⟨_, rfl, rfl⟩, hS, fun _ _ => rfl⟩
        | 2, _ => exact stepV rfl rfl (execBdTh (p := -1) (q := -1) rfl rfl rfl) ⟨s, ⟨_, rfl, rfl⟩, hS, fun _ _ => rfl⟩
        | 3, _ =>
          refine stepV rfl rfl (execBs1Th rfl (hv 2 (by decide) _ rfl _ rfl)) ⟨(X.heap.size, s.2.1, s.2.2.1, s.2.2.2.1, s.2.2.2.2), ⟨_, rfl, rfl⟩, ⟨(hS.1).trans (((belNew X _)).mono (hS.1).size), (hS.2.1.on (belNew X _)), (ownD_below hS.2.2.1 (belNew X _)), (ownD_below hS.2.2.2.1 (belNew X _)), (Nat.le_trans hS.2.2.2.2 ((belNew X _)).size), heapNew X _⟩, fun i hi => ?_⟩
          match i, hi with
          | 0, _ => rfl
          | 1, _ => rfl
          | 2, _ => rfl
          | n_ + 3, h_ => omega
        | 4, _ =>
          refine stepAppTh (h := chH (gN lf) j) rfl rfl rfl (hv 1 (by decide) _ rfl _ rfl) (hv 3 (by decide) _ rfl _ rfl) hS.2.2.2.1 (by rw [chH_n en, chH_m en]; exact hS.2.2.2.2.2) (by omega) hS.2.2.2.2.1 fun v' W' own' gr => ?_
          obtain ⟨g_, c_, rfl, _, _⟩ := ownL_some9 own' (by omega)
          refine ⟨(s.1, g_, c_, s.2.2.2.1, s.2.2.2.2), ⟨_, rfl, rfl⟩, ⟨(hS.1).grown gr (hS.1).size (fun k hk => Nat.le_trans hBC (hS.2.2.2.1.lt k hk).1), hS.2.1.over hlt hS.2.2.2.1 gr, own_overT hS.2.2.1 hS.2.2.2.1 gr (by decide), Nat.le_trans hS.2.2.2.2.1 gr.size, own'⟩, fun i hi => ?_⟩
          match i, hi with
          | 0, _ => rfl
          | 1, _ => rfl
          | 2, _ => rfl
          | 3, _ => rfl
          | n_ + 4, h_ => omega
        | 5, _ => exact stepV rfl rfl (execMvB rfl ((hf 5 (by decide)).trans t5)) ⟨s, ⟨_, rfl, rfl⟩, hS, fun _ _ => rfl⟩
        | 6, _ => exact stepV rfl rfl (By8.execSlH rfl (hv 4 (by decide) _ rfl _ rfl) (hv 5 (by decide) _ rfl _ rfl) (sl_hT s.2.1 _ s.2.2.1 n (by have h_ := th_len hS.2.2.2.2; omega) X)) ⟨s, ⟨_, rfl, rfl⟩, hS, fun _ _ => rfl⟩
        | 7, _ =>
          refine stepV rfl rfl (execBsLT rfl (hv 6 (by decide) _ rfl _ rfl) ⟨_, _, _, rfl⟩) ⟨(s.1, s.2.1, s.2.2.1, X.heap.size, s.2.2.2.2), ⟨_, rfl, rfl⟩, ⟨(hS.1).trans (((belNew X _)).mono (hS.1).size), (hS.2.1.on (belNew X _)), (ownD_below hS.2.2.1 (belNew X _)), (Nat.le_trans hS.2.2.2.1 ((belNew X _)).size), (ownD_below hS.2.2.2.2 (belNew X _)), heapNew X _⟩, fun i hi => ?_⟩
          match i, hi with
          | 0, _ => rfl
          | 1, _ => rfl
          | 2, _ => rfl
          | 3, _ => rfl
          | 4, _ => rfl
          | 5, _ => rfl
          | 6, _ => rfl
          | n_ + 7, h_ => omega
        | 8, _ =>
          refine stepAppLT (y := xT gb cp (gN lf)) (z := xT (updK gb j s.2.1) (updK cp j s.2.2.1) (gN lf)) rfl rfl rfl (hv 0 (by decide) _ rfl _ rfl) (hv 7 (by decide) _ rfl _ rfl) hS.2.2.1 hS.2.2.2.2.2 (by rw [xT_at, en]) (fun t ht => xT_lt ht) (by omega) (hS.1).size rfl fun v' W' own' gr => ⟨(s.1, s.2.1, s.2.2.1, s.2.2.2.1, v'), ⟨_, rfl, rfl⟩, ⟨(hS.1).grown gr (hS.1).size (fun k hk => (hS.2.2.1.lt k hk).1), (hS.2.1.overT hS.2.2.1 (by decide) gr), Nat.le_trans hS.2.2.2.1 gr.size, (own_overT hS.2.2.2.2.1 hS.2.2.1 gr (by decide)), own'⟩, fun i hi => ?_⟩
          match i, hi with
          | 0, _ => rfl
          | 1, _ => rfl
          | 2, _ => rfl
          | 3, _ => rfl
          | 4, _ => rfl
          | 5, _ => rfl
          | 6, _ => rfl
          | 7, _ => rfl
          | n_ + 8, h_ => omega
        | 9, _ => exact stepV rfl rfl (execAsgB rfl (hv 8 (by decide) _ rfl _ rfl)) ⟨s, ⟨_, rfl, rfl⟩, hS, fun _ _ => rfl⟩
        | k_ + 10, h_ => exact absurd h_ (by simp)
      rintro ⟨g29, g30, c30, g33, v34⟩ a X11 h1 h2 h3 h4 hS
      clear BB
      clear FT
      clear FP
      clear FL
      clear FC
      replace hS : Below V.heap.size V X11 ∧ (FmT V.heap.size j (gb) (cp) (gN lf) (chH (gN lf)) X11) ∧ (X6.heap.size ≤ X11.heap.size) ∧ (X11.ownsRow X6.heap.size 59 2 (.slice (some ⟨g30, 0, none⟩) (n + 1) c30) (n + 1) (intsL ((n + 1) * 2) (chH (gN lf) j))) ∧ (X11.ownsRow V.heap.size 55 1 v34 (j + 1) (lL (xT (updK gb j g30) (updK cp j c30) (gN lf)) (j + 1))) := hS
      obtain ⟨BB, FT, FC, FL3, FP2⟩ := hS
      replace t3 : a.eval (.tmp 3) = v34 := h4 9 _ rfl _ rfl
      replace t8 := (h3 8 (by decide)).trans t8
      replace t9 := (h3 9 (by decide)).trans t9
      replace t10 := (h3 10 (by decide)).trans t10
      replace A := (⟨h1, h2.trans A.2⟩ : a.tmps.size = 37 ∧ a.defers = [])
      clear h1 h2 h3 h4
      clear t4 t5 t6
      have FT2 : (FmT V.heap.size (j + 1) (updK gb j g30) (updK cp j c30) (gN lf) (chH (gN lf)) X11) := FT.add hlt (en ▸ FL3) hBC
      clear FT FL3 FC
      refine wp_region_sq (σ := Unit) 37 [(0, 35), (1, 10)] (fun j_ s X => match j_ with | 0 => Below V.heap.size V X ∧ (FmT V.heap.size (j + 1) (updK gb j g30) (updK cp j c30) (gN lf) (chH (gN lf)) X) ∧ (X.ownsRow V.heap.size 55 1 v34 (j + 1) (lL (xT (updK gb j g30) (updK cp j c30) (gN lf)) (j + 1))) | 1 => Below V.heap.size V X ∧ (FmT V.heap.size (j + 1) (updK gb j g30) (updK cp j c30) (gN lf) (chH (gN lf)) X) ∧ (X.ownsRow V.heap.size 55 1 v34 (j + 1) (lL (xT (updK gb j g30) (updK cp j c30) (gN lf)) (j + 1))) | _ => Below V.heap.size V X ∧ (FmT V.heap.size (j + 1) (updK gb j g30) (updK cp j c30) (gN lf) (chH (gN lf)) X) ∧ (X.ownsRow V.heap.size 55 1 v34 (j + 1) (lL (xT (updK gb j g30) (updK cp j c30) (gN lf)) (j + 1)))) (fun s => fun i_ => match i_ with | 0 => .int .i64 ((j + 1 : Nat) : Int) | 1 => .int .i64 ((j + 1 : Nat) : Int) | _ => undef) () A.1 (by kernel_rfl) (by decide) (by decide) ⟨BB, FT2, FP2⟩ ?_ ?_
      · intro i_ hi_ s a X hf hv hn hS
        match i_, hi_ with
        | 0, _ => exact stepV rfl rfl (execAd8 (p := j) (q := 1) rfl ((hn 1 (by decide) _ rfl _ rfl).trans t10) rfl (by omega)) ⟨s, ⟨_, rfl, rfl⟩, hS, fun _ _ => rfl⟩
        | 1, _ => exact stepV rfl rfl (execMvB rfl (hv 0 (by decide) _ rfl _ rfl)) ⟨s, ⟨_, rfl, rfl⟩, hS, fun _ _ => rfl⟩
        | k_ + 2, h_ => exact absurd h_ (by simp)
      rintro _ a X12 h1 h2 h3 h4 hS
      clear BB
      clear FT2
      clear FP2
      replace hS : Below V.heap.size V X12 ∧ (FmT V.heap.size (j + 1) (updK gb j g30) (updK cp j c30) (gN lf) (chH (gN lf)) X12) ∧ (X12.ownsRow V.heap.size 55 1 v34 (j + 1) (lL (xT (updK gb j g30) (updK cp j c30) (gN lf)) (j + 1))) := hS
      obtain ⟨BB, FT2, FP2⟩ := hS
      replace t3 := (h3 3 (by decide)).trans t3
      replace t8 := (h3 8 (by decide)).trans t8
      replace t9 := (h3 9 (by decide)).trans t9
      replace t10 : a.eval (.tmp 10) = .int .i64 ((j + 1 : Nat) : Int) := h4 1 _ rfl _ rfl
      replace A := (⟨h1, h2.trans A.2⟩ : a.tmps.size = 37 ∧ a.defers = [])
      clear h1 h2 h3 h4
      exact ⟨⟨j + 1, _, updK gb j g30, updK cp j c30, ltj, A, t3, t8, t9, t10, BB, FT2, FP2⟩, by show J - (intOf (a.eval (.tmp 10))).toNat < J - (intOf (Act.eval _ (.tmp 10))).toNat; rw [t10, esj]; show J - (j + 1) < J - j; omega⟩
  · rw [decide_eq_false ltj] at t11
    refine wp_cond_false t11 ?_
    refine wp_exit ?_
    first | with_reducible refine exit_in ?_ | with_reducible refine exit_then (exit_in ?_) | with_reducible refine exit_then (exit_then (exit_in ?_)) | refine exit_in ?_ | refine exit_then (exit_in ?_) | refine exit_then (exit_then (exit_in ?_))
    clear t11 esj
    have hjJ : j = J := by omega
    rw [hjJ] at FT FP
    clear t8 t9 t10
    refine wp_seq ?_
    refine wp_region_sq (σ := Unit) 37 [(0, 36), (1, 2)] (fun j_ s X => match j_ with | 0 => Below V.heap.size V X ∧ (FmT V.heap.size J (gb) (cp) (gN lf) (chH (gN lf)) X) ∧ (X.ownsRow V.heap.size 55 1 p J (lL (xT (gb) (cp) (gN lf)) J)) | 1 => Below V.heap.size V X ∧ (FmT V.heap.size J (gb) (cp) (gN lf) (chH (gN lf)) X) ∧ (X.ownsRow V.heap.size 55 1 p J (lL (xT (gb) (cp) (gN lf)) J)) | _ => Below V.heap.size V X ∧ (FmT V.heap.size J (gb) (cp) (gN lf) (chH (gN lf)) X) ∧ (X.ownsRow V.heap.size 55 1 p J (lL (xT (gb) (cp) (gN lf)) J))) (fun s => fun i_ => match i_ with | 0 => p | 1 => p | _ => undef) () A.1 (by kernel_rfl) (by decide) (by decide) ⟨BB, FT, FP⟩ ?_ ?_
    · intro i_ hi_ s a X hf hv hn hS
      match i_, hi_ with
      | 0, _ => exact stepV rfl rfl (execMvB rfl ((hf 3 (by decide)).trans t3)) ⟨s, ⟨_, rfl, rfl⟩, hS, fun _ _ => rfl⟩
      | 1, _ => exact stepV rfl rfl (execAsgB rfl (hv 0 (by decide) _ rfl _ rfl)) ⟨s, ⟨_, rfl, rfl⟩, hS, fun _ _ => rfl⟩
      | k_ + 2, h_ => exact absurd h_ (by simp)
    rintro _ a X13 h1 h2 h3 h4 hS
    clear BB
    clear FT
    clear FP
    replace hS : Below V.heap.size V X13 ∧ (FmT V.heap.size J (gb) (cp) (gN lf) (chH (gN lf)) X13) ∧ (X13.ownsRow V.heap.size 55 1 p J (lL (xT (gb) (cp) (gN lf)) J)) := hS
    obtain ⟨BB, FT, FP⟩ := hS
    have t2 : a.eval (.tmp 2) = p := h4 1 _ rfl _ rfl
    replace A := (⟨h1, h2.trans A.2⟩ : a.tmps.size = 37 ∧ a.defers = [])
    clear h1 h2 h3 h4
    clear t3
    refine wp_ret ?_
    refine bodyPost_ret (results_tmp rfl _ _ _) A.2 ⟨p, gb, cp, ?_, FT, FP, BB⟩
    show Ending.returned (a.eval (.tmp 2)) = _
    rw [t2]
set_option maxRecDepth 100000 in
set_option maxHeartbeats 4000000 in
/-- The reference's Weave. -/
theorem rweave (cf lf : Nat → Int) (n J : Nat) (u0 v : Value) (V : World) (FJ : SliceI V u0 n cf) (hn17 : n ≤ 17592186044416) (FI : SliceI V v J lf) (hG : GoodL lf J) :
    Calls Try.prog 25 #[u0, v] V fun e w' => ∃ r, e = .returned (.tuple #[r, .int .i64 ((weE cf n (gN lf) J : Nat) : Int)]) ∧ w'.ownsRow V.heap.size 58 2 r (zl (weE cf n (gN lf) J) n) (intsL (zl (weE cf n (gN lf) J) n * 2) (rwH cf)) ∧ Below V.heap.size V w' := by
  have hJ20 : J ≤ 1048576 := by have := hG.2; omega
  go_enter Try.func25, Try.ntmps25
  refine wp_seq ?_
  refine wp_region_sqK 81 [(0, 4), (1, 5)] (fun i_ => match i_ with | 0 => .slice none 0 0 | 1 => .int .i64 ((0 : Nat) : Int) | _ => undef) rfl (by kernel_rfl) (by decide) (by decide) ?_ ?_
  · intro i_ hi_ a hf hv hn
    match i_, hi_ with
    | 0, _ => exact stepV rfl rfl (execAsgB rfl rfl) ⟨⟨_, rfl, rfl⟩, rfl⟩
    | 1, _ => exact stepV rfl rfl (execAsgB rfl rfl) ⟨⟨_, rfl, rfl⟩, rfl⟩
    | k_ + 2, h_ => exact absurd h_ (by simp)
  intro a h1 h2 h3 h4
  have t0 : a.eval (.tmp 0) = u0 := (h3 0 (by decide)).trans rfl
  have t1 : a.eval (.tmp 1) = v := (h3 1 (by decide)).trans rfl
  have A : a.tmps.size = 81 ∧ a.defers = [] := ⟨h1, h2⟩
  have BW : Below V.heap.size V V := Below.refl _ _
  clear h1 h2 h3 h4
  have BB := BW
  refine wp_seq ?_
  refine wp_region_sq (σ := Unit) 81 [(0, 6)] (fun j_ s X => match j_ with | 0 => Below V.heap.size V X | _ => Below V.heap.size V X) (fun s => fun i_ => match i_ with | 0 => .slice none 0 0 | _ => undef) () A.1 (by kernel_rfl) (by decide) (by decide) (BB) ?_ ?_
  · intro i_ hi_ s a X hf hv hn hS
    match i_, hi_ with
    | 0, _ => exact stepV rfl rfl (execAsgB rfl rfl) ⟨s, ⟨_, rfl, rfl⟩, hS, fun _ _ => rfl⟩
    | k_ + 1, h_ => exact absurd h_ (by simp)
  rintro _ a X1 h1 h2 h3 h4 hS
  clear BB
  replace hS : Below V.heap.size V X1 := hS
  have BB := hS
  clear hS
  replace t0 := (h3 0 (by decide)).trans t0
  replace t1 := (h3 1 (by decide)).trans t1
  have t6 : a.eval (.tmp 6) = .slice none 0 0 := h4 0 _ rfl _ rfl
  replace A := (⟨h1, h2.trans A.2⟩ : a.tmps.size = 81 ∧ a.defers = [])
  clear h1 h2 h3 h4
  have FX : (X1.ownsRow V.heap.size 3 1 (.slice none 0 0) (0) (intsL (0) (fun _ => 0))) := World.ownsRow_nil _ _ _ _
  refine wp_seq ?_
  refine wp_seq ?_
  refine wp_region_sq (σ := Unit) 81 [(0, 7)] (fun j_ s X => match j_ with | 0 => Below V.heap.size V X ∧ (X.ownsRow V.heap.size 3 1 (.slice none 0 0) (0) (intsL (0) (fun _ => 0))) | _ => Below V.heap.size V X ∧ (X.ownsRow V.heap.size 3 1 (.slice none 0 0) (0) (intsL (0) (fun _ => 0)))) (fun s => fun i_ => match i_ with | 0 => .int .i64 ((0 : Nat) : Int) | _ => undef) () A.1 (by kernel_rfl) (by decide) (by decide) ⟨BB, FX⟩ ?_ ?_
  · intro i_ hi_ s a X hf hv hn hS
    match i_, hi_ with
    | 0, _ => exact stepV rfl rfl (execAsgB rfl rfl) ⟨s, ⟨_, rfl, rfl⟩, hS, fun _ _ => rfl⟩
    | k_ + 1, h_ => exact absurd h_ (by simp)
  rintro _ a X2 h1 h2 h3 h4 hS
  clear BB
  clear FX
  replace hS : Below V.heap.size V X2 ∧ (X2.ownsRow V.heap.size 3 1 (.slice none 0 0) (0) (intsL (0) (fun _ => 0))) := hS
  obtain ⟨BB, FX⟩ := hS
  replace t0 := (h3 0 (by decide)).trans t0
  replace t1 := (h3 1 (by decide)).trans t1
  replace t6 := (h3 6 (by decide)).trans t6
  have t7 : a.eval (.tmp 7) = .int .i64 ((0 : Nat) : Int) := h4 0 _ rfl _ rfl
  replace A := (⟨h1, h2.trans A.2⟩ : a.tmps.size = 81 ∧ a.defers = [])
  clear h1 h2 h3 h4
  refine wp_block ?_
  refine wp_loop (fun a W => ∃ (i : Nat) (y : Value), i ≤ J ∧ (a.tmps.size = 81 ∧ a.defers = []) ∧ a.eval (.tmp 0) = u0 ∧ a.eval (.tmp 1) = v ∧ a.eval (.tmp 6) = y ∧ a.eval (.tmp 7) = .int .i64 ((i : Nat) : Int) ∧ Below V.heap.size V W ∧ (W.ownsRow V.heap.size 3 1 y (i) (intsL (i) (fun _ => 0)))) (fun a _ => J - (intOf (a.eval (.tmp 7))).toNat) ⟨0, _, Nat.zero_le _, A, t0, t1, t6, t7, BB, FX⟩ ?_
  clear A t0 t1 t6 t7 BB FX a
  rintro a XL3 ⟨i, y, hi, A, t0, t1, t6, t7, BB, FX⟩
  have esi := t7
  refine wp_seq ?_
  refine wp_seq ?_
  refine wp_region_sq (σ := Unit) 81 [(0, 12), (1, 13), (2, 14), (3, 15)] (fun j_ s X => match j_ with | 0 => Below V.heap.size V X ∧ (X.ownsRow V.heap.size 3 1 y (i) (intsL (i) (fun _ => 0))) | 1 => Below V.heap.size V X ∧ (X.ownsRow V.heap.size 3 1 y (i) (intsL (i) (fun _ => 0))) | 2 => Below V.heap.size V X ∧ (X.ownsRow V.heap.size 3 1 y (i) (intsL (i) (fun _ => 0))) | 3 => Below V.heap.size V X ∧ (X.ownsRow V.heap.size 3 1 y (i) (intsL (i) (fun _ => 0))) | _ => Below V.heap.size V X ∧ (X.ownsRow V.heap.size 3 1 y (i) (intsL (i) (fun _ => 0)))) (fun s => fun i_ => match i_ with | 0 => .int .i64 ((i : Nat) : Int) | 1 => v | 2 => .int .i64 ((J : Nat) : Int) | 3 => .bool (decide (i < J)) | _ => undef) () A.1 (by kernel_rfl) (by decide) (by decide) ⟨BB, FX⟩ ?_ ?_
  · intro i_ hi_ s a X hf hv hn hS
    match i_, hi_ with
    | 0, _ => exact stepV rfl rfl (execMvB rfl ((hf 7 (by decide)).trans t7)) ⟨s, ⟨_, rfl, rfl⟩, hS, fun _ _ => rfl⟩
    | 1, _ => exact stepV rfl rfl (execMvB rfl ((hf 1 (by decide)).trans t1)) ⟨s, ⟨_, rfl, rfl⟩, hS, fun _ _ => rfl⟩
    | 2, _ => exact stepV rfl rfl (execLenI (len := J) rfl (hv 1 (by decide) _ rfl _ rfl) ((FI.on hS.1)).shp) ⟨s, ⟨_, rfl, rfl⟩, hS, fun _ _ => rfl⟩
    | 3, _ => exact stepV rfl rfl (execLtW (p := i) (q := J) rfl (hv 0 (by decide) _ rfl _ rfl) (hv 2 (by decide) _ rfl _ rfl)) ⟨s, ⟨_, rfl, rfl⟩, hS, fun _ _ => rfl⟩
    | k_ + 4, h_ => exact absurd h_ (by simp)
  rintro _ a X3 h1 h2 h3 h4 hS
  clear BB
  clear FX
  replace hS : Below V.heap.size V X3 ∧ (X3.ownsRow V.heap.size 3 1 y (i) (intsL (i) (fun _ => 0))) := hS
  obtain ⟨BB, FX⟩ := hS
  replace t0 := (h3 0 (by decide)).trans t0
  replace t1 := (h3 1 (by decide)).trans t1
  replace t6 := (h3 6 (by decide)).trans t6
  replace t7 := (h3 7 (by decide)).trans t7
  have t15 : a.eval (.tmp 15) = .bool (decide (i < J)) := h4 3 _ rfl _ rfl
  replace A := (⟨h1, h2.trans A.2⟩ : a.tmps.size = 81 ∧ a.defers = [])
  clear h1 h2 h3 h4
  by_cases lti : i < J
  · rw [decide_eq_true lti] at t15
    refine wp_cond_true t15 ?_
    refine wp_skip ?_
    clear t15
    refine wp_seq ?_
    refine wp_block ?_
    refine wp_region_sq (σ := Nat × Value) 81 [(0, 18), (1, 19), (2, 20), (3, 6)] (fun j_ s X => match j_ with | 0 => Below V.heap.size V X ∧ (X.ownsRow V.heap.size 3 1 y (i) (intsL (i) (fun _ => 0))) | 1 => Below V.heap.size V X ∧ (X.ownsRow V.heap.size 3 1 y (i) (intsL (i) (fun _ => 0))) | 2 => Below V.heap.size V X ∧ (X.ownsRow V.heap.size 3 1 y (i) (intsL (i) (fun _ => 0))) ∧ (X.heap[s.1]? = some (.cells #[.int .i64 (0)] 3)) | 3 => Below V.heap.size V X ∧ (X.ownsRow V.heap.size 3 1 s.2 (i + 1) (intsL (i + 1) (fun _ => 0))) | _ => Below V.heap.size V X ∧ (X.ownsRow V.heap.size 3 1 s.2 (i + 1) (intsL (i + 1) (fun _ => 0)))) (fun s => fun i_ => match i_ with | 0 => y | 1 => .slice (some ⟨s.1, 0, none⟩) 1 1 | 2 => s.2 | 3 => s.2 | _ => undef) (0, undef) A.1 (by kernel_rfl) (by decide) (by decide) ⟨BB, FX⟩ ?_ ?_
    · intro i_ hi_ s a X hf hv hn hS
      match i_, hi_ with
      | 0, _ => exact stepV rfl rfl (execMvB rfl ((hn 3 (by decide) _ rfl _ rfl).trans t6)) ⟨s, ⟨_, rfl, rfl⟩, hS, fun _ _ => rfl⟩
      | 1, _ =>
        refine stepV rfl rfl (execBsI (z := 0) rfl rfl) ⟨(X.heap.size, s.2), ⟨_, rfl, rfl⟩, ⟨(hS.1).trans (((belNew X _)).mono (hS.1).size), (ownD_below hS.2 (belNew X _)), heapNew X _⟩, fun i hi => ?_⟩
        match i, hi with
        | 0, _ => rfl
        | n_ + 1, h_ => omega
      | 2, _ =>
        refine stepAppI (f := fun _ => 0) rfl rfl rfl (hv 0 (by decide) _ rfl _ rfl) (hv 1 (by decide) _ rfl _ rfl) hS.2.1 hS.2.2 (by omega) (hS.1).size fun v' W' own' gr => ⟨(s.1, v'), ⟨_, rfl, rfl⟩, ⟨(hS.1).grown gr (hS.1).size (fun k hk => (hS.2.1.lt k hk).1), own'⟩, fun i hi => ?_⟩
        match i, hi with
        | 0, _ => rfl
        | 1, _ => rfl
        | n_ + 2, h_ => omega
      | 3, _ => exact stepV rfl rfl (execAsgB rfl (hv 2 (by decide) _ rfl _ rfl)) ⟨s, ⟨_, rfl, rfl⟩, hS, fun _ _ => rfl⟩
      | k_ + 4, h_ => exact absurd h_ (by simp)
    rintro ⟨g19, v20⟩ a X5 h1 h2 h3 h4 hS
    clear BB
    clear FX
    replace hS : Below V.heap.size V X5 ∧ (X5.ownsRow V.heap.size 3 1 v20 (i + 1) (intsL (i + 1) (fun _ => 0))) := hS
    obtain ⟨BB, FX2⟩ := hS
    replace t0 := (h3 0 (by decide)).trans t0
    replace t1 := (h3 1 (by decide)).trans t1
    replace t6 : a.eval (.tmp 6) = v20 := h4 3 _ rfl _ rfl
    replace t7 := (h3 7 (by decide)).trans t7
    replace A := (⟨h1, h2.trans A.2⟩ : a.tmps.size = 81 ∧ a.defers = [])
    clear h1 h2 h3 h4
    refine wp_region_sq (σ := Unit) 81 [(0, 16), (1, 17), (2, 7)] (fun j_ s X => match j_ with | 0 => Below V.heap.size V X ∧ (X.ownsRow V.heap.size 3 1 v20 (i + 1) (intsL (i + 1) (fun _ => 0))) | 1 => Below V.heap.size V X ∧ (X.ownsRow V.heap.size 3 1 v20 (i + 1) (intsL (i + 1) (fun _ => 0))) | 2 => Below V.heap.size V X ∧ (X.ownsRow V.heap.size 3 1 v20 (i + 1) (intsL (i + 1) (fun _ => 0))) | _ => Below V.heap.size V X ∧ (X.ownsRow V.heap.size 3 1 v20 (i + 1) (intsL (i + 1) (fun _ => 0)))) (fun s => fun i_ => match i_ with | 0 => .int .i64 ((i : Nat) : Int) | 1 => .int .i64 ((i + 1 : Nat) : Int) | 2 => .int .i64 ((i + 1 : Nat) : Int) | _ => undef) () A.1 (by kernel_rfl) (by decide) (by decide) ⟨BB, FX2⟩ ?_ ?_
    · intro i_ hi_ s a X hf hv hn hS
      match i_, hi_ with
      | 0, _ => exact stepV rfl rfl (execMvB rfl ((hn 2 (by decide) _ rfl _ rfl).trans t7)) ⟨s, ⟨_, rfl, rfl⟩, hS, fun _ _ => rfl⟩
      | 1, _ => exact stepV rfl rfl (execAd8 (p := i) (q := 1) rfl (hv 0 (by decide) _ rfl _ rfl) rfl (by omega)) ⟨s, ⟨_, rfl, rfl⟩, hS, fun _ _ => rfl⟩
      | 2, _ => exact stepV rfl rfl (execAsgB rfl (hv 1 (by decide) _ rfl _ rfl)) ⟨s, ⟨_, rfl, rfl⟩, hS, fun _ _ => rfl⟩
      | k_ + 3, h_ => exact absurd h_ (by simp)
    rintro _ a X4 h1 h2 h3 h4 hS
    clear BB
    clear FX2
    replace hS : Below V.heap.size V X4 ∧ (X4.ownsRow V.heap.size 3 1 v20 (i + 1) (intsL (i + 1) (fun _ => 0))) := hS
    obtain ⟨BB, FX2⟩ := hS
    replace t0 := (h3 0 (by decide)).trans t0
    replace t1 := (h3 1 (by decide)).trans t1
    replace t6 := (h3 6 (by decide)).trans t6
    replace t7 : a.eval (.tmp 7) = .int .i64 ((i + 1 : Nat) : Int) := h4 2 _ rfl _ rfl
    replace A := (⟨h1, h2.trans A.2⟩ : a.tmps.size = 81 ∧ a.defers = [])
    clear h1 h2 h3 h4
    exact ⟨⟨i + 1, _, lti, A, t0, t1, t6, t7, BB, FX2⟩, by show J - (intOf (a.eval (.tmp 7))).toNat < J - (intOf (Act.eval _ (.tmp 7))).toNat; rw [t7, esi]; show J - (i + 1) < J - i; omega⟩
  · rw [decide_eq_false lti] at t15
    refine wp_cond_false t15 ?_
    refine wp_exit ?_
    first | with_reducible refine exit_in ?_ | with_reducible refine exit_then (exit_in ?_) | with_reducible refine exit_then (exit_then (exit_in ?_)) | refine exit_in ?_ | refine exit_then (exit_in ?_) | refine exit_then (exit_then (exit_in ?_))
    clear t15 esi
    have hiJ : i = J := by omega
    rw [hiJ] at FX
    clear t7
    clear hiJ lti hi
    refine wp_seq ?_
    refine wp_region_sq (σ := Unit) 81 [(0, 8)] (fun j_ s X => match j_ with | 0 => Below V.heap.size V X ∧ (X.ownsRow V.heap.size 3 1 y (J) (intsL (J) (fun _ => 0))) | _ => Below V.heap.size V X ∧ (X.ownsRow V.heap.size 3 1 y (J) (intsL (J) (fun _ => 0)))) (fun s => fun i_ => match i_ with | 0 => .slice none 0 0 | _ => undef) () A.1 (by kernel_rfl) (by decide) (by decide) ⟨BB, FX⟩ ?_ ?_
    · intro i_ hi_ s a X hf hv hn hS
      match i_, hi_ with
      | 0, _ => exact stepV rfl rfl (execAsgB rfl rfl) ⟨s, ⟨_, rfl, rfl⟩, hS, fun _ _ => rfl⟩
      | k_ + 1, h_ => exact absurd h_ (by simp)
    rintro _ a X6 h1 h2 h3 h4 hS
    clear BB
    clear FX
    replace hS : Below V.heap.size V X6 ∧ (X6.ownsRow V.heap.size 3 1 y (J) (intsL (J) (fun _ => 0))) := hS
    obtain ⟨BB, FX⟩ := hS
    replace t0 := (h3 0 (by decide)).trans t0
    replace t1 := (h3 1 (by decide)).trans t1
    replace t6 := (h3 6 (by decide)).trans t6
    have t8 : a.eval (.tmp 8) = .slice none 0 0 := h4 0 _ rfl _ rfl
    replace A := (⟨h1, h2.trans A.2⟩ : a.tmps.size = 81 ∧ a.defers = [])
    clear h1 h2 h3 h4
    refine wp_seq ?_
    refine wp_seq ?_
    refine wp_region_sq (σ := Unit) 81 [(0, 9)] (fun j_ s X => match j_ with | 0 => Below V.heap.size V X ∧ (X.ownsRow V.heap.size 3 1 y (J) (intsL (J) (fun _ => 0))) | _ => Below V.heap.size V X ∧ (X.ownsRow V.heap.size 3 1 y (J) (intsL (J) (fun _ => 0)))) (fun s => fun i_ => match i_ with | 0 => .int .i64 ((0 : Nat) : Int) | _ => undef) () A.1 (by kernel_rfl) (by decide) (by decide) ⟨BB, FX⟩ ?_ ?_
    · intro i_ hi_ s a X hf hv hn hS
      match i_, hi_ with
      | 0, _ => exact stepV rfl rfl (execAsgB rfl rfl) ⟨s, ⟨_, rfl, rfl⟩, hS, fun _ _ => rfl⟩
      | k_ + 1, h_ => exact absurd h_ (by simp)
    rintro _ a X7 h1 h2 h3 h4 hS
    clear BB
    clear FX
    replace hS : Below V.heap.size V X7 ∧ (X7.ownsRow V.heap.size 3 1 y (J) (intsL (J) (fun _ => 0))) := hS
    obtain ⟨BB, FX⟩ := hS
    replace t0 := (h3 0 (by decide)).trans t0
    replace t1 := (h3 1 (by decide)).trans t1
    replace t6 := (h3 6 (by decide)).trans t6
    replace t8 := (h3 8 (by decide)).trans t8
    have t9 : a.eval (.tmp 9) = .int .i64 ((0 : Nat) : Int) := h4 0 _ rfl _ rfl
    replace A := (⟨h1, h2.trans A.2⟩ : a.tmps.size = 81 ∧ a.defers = [])
    clear h1 h2 h3 h4
    replace FX : (X7.ownsRow V.heap.size 3 1 y (J) (intsL (J) (fun j => (cntC (gN cf) j 0 : Int)))) := FX
    have FU : (X7.ownsRow V.heap.size 58 2 (.slice none 0 0) 0 (intsL (0 * 2) (rwH cf))) := World.ownsRow_nil _ _ _ _
    refine wp_block ?_
    refine wp_loop (fun a W => ∃ (i : Nat) (u : Value), i ≤ n ∧ (∀ j, j < i → 0 ≤ cf j ∧ cf j < (J : Int)) ∧ (∀ j, cntC (gN cf) j i ≤ gN lf j) ∧ (a.tmps.size = 81 ∧ a.defers = []) ∧ a.eval (.tmp 0) = u0 ∧ a.eval (.tmp 1) = v ∧ a.eval (.tmp 6) = y ∧ a.eval (.tmp 8) = u ∧ a.eval (.tmp 9) = .int .i64 ((i : Nat) : Int) ∧ Below V.heap.size V W ∧ (W.ownsRow V.heap.size 3 1 y (J) (intsL (J) (fun j => (cntC (gN cf) j i : Int)))) ∧ (W.ownsRow V.heap.size 58 2 u i (intsL (i * 2) (rwH cf)))) (fun a _ => n - (intOf (a.eval (.tmp 9))).toNat) ⟨0, _, Nat.zero_le _, fun j hj => absurd hj (Nat.not_lt_zero _), fun j => Nat.zero_le _, A, t0, t1, t6, t8, t9, BB, FX, FU⟩ ?_
    clear A t0 t1 t6 t8 t9 BB FX FU a
    rintro a XL8 ⟨i, u, hi, hin, hcl, A, t0, t1, t6, t8, t9, BB, FX, FU⟩
    have esi := t9
    refine wp_seq ?_
    refine wp_seq ?_
    refine wp_region_sq (σ := Unit) 81 [(0, 21), (1, 22), (2, 23), (3, 24)] (fun j_ s X => match j_ with | 0 => Below V.heap.size V X ∧ (X.ownsRow V.heap.size 3 1 y (J) (intsL (J) (fun j => (cntC (gN cf) j i : Int)))) ∧ (X.ownsRow V.heap.size 58 2 u i (intsL (i * 2) (rwH cf))) | 1 => Below V.heap.size V X ∧ (X.ownsRow V.heap.size 3 1 y (J) (intsL (J) (fun j => (cntC (gN cf) j i : Int)))) ∧ (X.ownsRow V.heap.size 58 2 u i (intsL (i * 2) (rwH cf))) | 2 => Below V.heap.size V X ∧ (X.ownsRow V.heap.size 3 1 y (J) (intsL (J) (fun j => (cntC (gN cf) j i : Int)))) ∧ (X.ownsRow V.heap.size 58 2 u i (intsL (i * 2) (rwH cf))) | 3 => Below V.heap.size V X ∧ (X.ownsRow V.heap.size 3 1 y (J) (intsL (J) (fun j => (cntC (gN cf) j i : Int)))) ∧ (X.ownsRow V.heap.size 58 2 u i (intsL (i * 2) (rwH cf))) | _ => Below V.heap.size V X ∧ (X.ownsRow V.heap.size 3 1 y (J) (intsL (J) (fun j => (cntC (gN cf) j i : Int)))) ∧ (X.ownsRow V.heap.size 58 2 u i (intsL (i * 2) (rwH cf)))) (fun s => fun i_ => match i_ with | 0 => .int .i64 ((i : Nat) : Int) | 1 => u0 | 2 => .int .i64 ((n : Nat) : Int) | 3 => .bool (decide (i < n)) | _ => undef) () A.1 (by kernel_rfl) (by decide) (by decide) ⟨BB, FX, FU⟩ ?_ ?_
    · intro i_ hi_ s a X hf hv hn hS
      match i_, hi_ with
      | 0, _ => exact stepV rfl rfl (execMvB rfl ((hf 9 (by decide)).trans t9)) ⟨s, ⟨_, rfl, rfl⟩, hS, fun _ _ => rfl⟩
      | 1, _ => exact stepV rfl rfl (execMvB rfl ((hf 0 (by decide)).trans t0)) ⟨s, ⟨_, rfl, rfl⟩, hS, fun _ _ => rfl⟩
      | 2, _ => exact stepV rfl rfl (execLenI (len := n) rfl (hv 1 (by decide) _ rfl _ rfl) ((FJ.on hS.1)).shp) ⟨s, ⟨_, rfl, rfl⟩, hS, fun _ _ => rfl⟩
      | 3, _ => exact stepV rfl rfl (execLtW (p := i) (q := n) rfl (hv 0 (by decide) _ rfl _ rfl) (hv 2 (by decide) _ rfl _ rfl)) ⟨s, ⟨_, rfl, rfl⟩, hS, fun _ _ => rfl⟩
      | k_ + 4, h_ => exact absurd h_ (by simp)
    rintro _ a X8 h1 h2 h3 h4 hS
    clear BB
    clear FX
    clear FU
    replace hS : Below V.heap.size V X8 ∧ (X8.ownsRow V.heap.size 3 1 y (J) (intsL (J) (fun j => (cntC (gN cf) j i : Int)))) ∧ (X8.ownsRow V.heap.size 58 2 u i (intsL (i * 2) (rwH cf))) := hS
    obtain ⟨BB, FX, FU⟩ := hS
    replace t0 := (h3 0 (by decide)).trans t0
    replace t1 := (h3 1 (by decide)).trans t1
    replace t6 := (h3 6 (by decide)).trans t6
    replace t8 := (h3 8 (by decide)).trans t8
    replace t9 := (h3 9 (by decide)).trans t9
    have t24 : a.eval (.tmp 24) = .bool (decide (i < n)) := h4 3 _ rfl _ rfl
    replace A := (⟨h1, h2.trans A.2⟩ : a.tmps.size = 81 ∧ a.defers = [])
    clear h1 h2 h3 h4
    by_cases lti : i < n
    · rw [decide_eq_true lti] at t24
      refine wp_cond_true t24 ?_
      refine wp_skip ?_
      clear t24
      refine wp_seq ?_
      refine wp_block ?_
      obtain ⟨ccb, cco, ccc, ecc, hccb, hccc⟩ := open_sl FJ (by omega)
      have ccc : ∀ k, k < n → ∀ X, Below V.heap.size V X → X.cell? ⟨ccb, cco + k, none⟩ = some (.int .i64 ((cf) k)) := fun k hk X hX => by rw [cell_below hX hccb]; exact hccc k hk
      by_cases h1 : cf i < 0
      · refine wp_seq ?_
        refine wp_region_sq (σ := Unit) 81 [(0, 27), (1, 28), (2, 29), (3, 30), (4, 10)] (fun j_ s X => match j_ with | 0 => Below V.heap.size V X ∧ (X.ownsRow V.heap.size 3 1 y (J) (intsL (J) (fun j => (cntC (gN cf) j i : Int)))) ∧ (X.ownsRow V.heap.size 58 2 u i (intsL (i * 2) (rwH cf))) | 1 => Below V.heap.size V X ∧ (X.ownsRow V.heap.size 3 1 y (J) (intsL (J) (fun j => (cntC (gN cf) j i : Int)))) ∧ (X.ownsRow V.heap.size 58 2 u i (intsL (i * 2) (rwH cf))) | 2 => Below V.heap.size V X ∧ (X.ownsRow V.heap.size 3 1 y (J) (intsL (J) (fun j => (cntC (gN cf) j i : Int)))) ∧ (X.ownsRow V.heap.size 58 2 u i (intsL (i * 2) (rwH cf))) | 3 => Below V.heap.size V X ∧ (X.ownsRow V.heap.size 3 1 y (J) (intsL (J) (fun j => (cntC (gN cf) j i : Int)))) ∧ (X.ownsRow V.heap.size 58 2 u i (intsL (i * 2) (rwH cf))) | 4 => Below V.heap.size V X ∧ (X.ownsRow V.heap.size 3 1 y (J) (intsL (J) (fun j => (cntC (gN cf) j i : Int)))) ∧ (X.ownsRow V.heap.size 58 2 u i (intsL (i * 2) (rwH cf))) | _ => Below V.heap.size V X ∧ (X.ownsRow V.heap.size 3 1 y (J) (intsL (J) (fun j => (cntC (gN cf) j i : Int)))) ∧ (X.ownsRow V.heap.size 58 2 u i (intsL (i * 2) (rwH cf)))) (fun s => fun i_ => match i_ with | 0 => u0 | 1 => .int .i64 ((i : Nat) : Int) | 2 => .pointer (some ⟨ccb, cco + i, none⟩) | 3 => .int .i64 (cf i) | 4 => .int .i64 (cf i) | _ => undef) () A.1 (by kernel_rfl) (by decide) (by decide) ⟨BB, FX, FU⟩ ?_ ?_
        · intro i_ hi_ s a X hf hv hn hS
          match i_, hi_ with
          | 0, _ => exact stepV rfl rfl (execMvB rfl ((hf 0 (by decide)).trans t0)) ⟨s, ⟨_, rfl, rfl⟩, hS, fun _ _ => rfl⟩
          | 1, _ => exact stepV rfl rfl (execMvB rfl ((hf 9 (by decide)).trans t9)) ⟨s, ⟨_, rfl, rfl⟩, hS, fun _ _ => rfl⟩
          | 2, _ => exact stepV rfl rfl (execIdxN (k := i) rfl ((hv 0 (by decide) _ rfl _ rfl).trans ecc) (hv 1 (by decide) _ rfl _ rfl) lti) ⟨s, ⟨_, rfl, rfl⟩, hS, fun _ _ => rfl⟩
          | 3, _ => exact stepV rfl rfl (execLd3 rfl (hv 2 (by decide) _ rfl _ rfl) (ccc i lti X hS.1)) ⟨s, ⟨_, rfl, rfl⟩, hS, fun _ _ => rfl⟩
          | 4, _ => exact stepV rfl rfl (execAsgB rfl (hv 3 (by decide) _ rfl _ rfl)) ⟨s, ⟨_, rfl, rfl⟩, hS, fun _ _ => rfl⟩
          | k_ + 5, h_ => exact absurd h_ (by simp)
        rintro _ a X10 h1 h2 h3 h4 hS
        clear BB
        clear FX
        clear FU
        replace hS : Below V.heap.size V X10 ∧ (X10.ownsRow V.heap.size 3 1 y (J) (intsL (J) (fun j => (cntC (gN cf) j i : Int)))) ∧ (X10.ownsRow V.heap.size 58 2 u i (intsL (i * 2) (rwH cf))) := hS
        obtain ⟨BB, FX, FU⟩ := hS
        replace t0 := (h3 0 (by decide)).trans t0
        replace t1 := (h3 1 (by decide)).trans t1
        replace t6 := (h3 6 (by decide)).trans t6
        replace t8 := (h3 8 (by decide)).trans t8
        replace t9 := (h3 9 (by decide)).trans t9
        have t10 : a.eval (.tmp 10) = .int .i64 (cf i) := h4 4 _ rfl _ rfl
        replace A := (⟨h1, h2.trans A.2⟩ : a.tmps.size = 81 ∧ a.defers = [])
        clear h1 h2 h3 h4
        refine wp_seq ?_
        refine wp_seq ?_
        refine wp_region_detA 81 [(0, 31), (1, 32), (2, 33), (3, 34), (4, 35), (5, 36), (6, 37), (7, 38), (8, 39), (9, 40), (10, 41), (11, 42), (12, 43), (13, 44), (14, 45), (15, 46), (16, 47), (17, 48), (18, 49)] (fun i_ => match i_ with | 0 => .int .i64 (cf i) | 1 => .bool true | 2 => .bool true | 3 => undef | 4 => undef | 5 => undef | 6 => undef | 7 => .bool true | 8 => .bool true | 9 => undef | 10 => undef | 11 => undef | 12 => undef | 13 => undef | 14 => undef | 15 => undef | 16 => undef | 17 => undef | 18 => .bool true | _ => undef) (fun _ X => Below V.heap.size V X ∧ (X.ownsRow V.heap.size 3 1 y (J) (intsL (J) (fun j => (cntC (gN cf) j i : Int)))) ∧ (X.ownsRow V.heap.size 58 2 u i (intsL (i * 2) (rwH cf)))) (by kernel_rfl) (by kernel_rfl) A.1 (by kernel_rfl) (by decide) (by decide) ⟨BB.drew, (ownD_below FX (Below.refl _ _).drew), (ownD_below FU (Below.refl _ _).drew)⟩ ?_ ?_
        · intro i_ hi_ l_ a X hl_ hf hdep hl2 hcl hno hT
          match i_, hi_ with
          | 0, _ => exact stepV rfl rfl (execMvB rfl ((hf 10 (by decide)).trans t10)) ⟨⟨_, rfl, rfl⟩, hT⟩
          | 1, _ => exact stepV rfl rfl (execLtCt (p := (cf i)) (q := 0) rfl (hdep _ rfl 0 rfl _ rfl _ rfl) (by exact h1)) ⟨⟨_, rfl, rfl⟩, hT⟩
          | 2, _ => exact stepV rfl rfl (execMvB rfl (hdep _ rfl 1 rfl _ rfl _ rfl)) ⟨⟨_, rfl, rfl⟩, hT⟩
          | 3, _ => exact stepU rfl (unwantedOf rfl (yieldedAt rfl rfl (show a.eval (.tmp 33) = .bool (!false) from (hdep _ rfl 2 rfl _ rfl _ rfl)))) ⟨⟨_, rfl, rfl⟩, hT⟩
          | 4, _ => exact stepU rfl (unwantedOf rfl (yieldedAt rfl rfl (show a.eval (.tmp 33) = .bool (!false) from (hdep _ rfl 2 rfl _ rfl _ rfl)))) ⟨⟨_, rfl, rfl⟩, hT⟩
          | 5, _ => exact stepU rfl (unwantedOf rfl (yieldedAt rfl rfl (show a.eval (.tmp 33) = .bool (!false) from (hdep _ rfl 2 rfl _ rfl _ rfl)))) ⟨⟨_, rfl, rfl⟩, hT⟩
          | 6, _ => exact stepU rfl (unwantedOf rfl (yieldedAt rfl rfl (show a.eval (.tmp 33) = .bool (!false) from (hdep _ rfl 2 rfl _ rfl _ rfl)))) ⟨⟨_, rfl, rfl⟩, hT⟩
          | 7, _ => exact stepV rfl rfl (execPickT rfl (hdep _ rfl 2 rfl _ rfl _ rfl) rfl) ⟨⟨_, rfl, rfl⟩, hT⟩
          | 8, _ => exact stepV rfl rfl (execMvB rfl (hdep _ rfl 7 rfl _ rfl _ rfl)) ⟨⟨_, rfl, rfl⟩, hT⟩
          | 9, _ => exact stepU rfl (unwantedOf rfl (yieldedAt rfl rfl (show a.eval (.tmp 39) = .bool (!false) from (hdep _ rfl 8 rfl _ rfl _ rfl)))) ⟨⟨_, rfl, rfl⟩, hT⟩
          | 10, _ => exact stepU rfl (unwantedOf rfl (yieldedAt rfl rfl (show a.eval (.tmp 39) = .bool (!false) from (hdep _ rfl 8 rfl _ rfl _ rfl)))) ⟨⟨_, rfl, rfl⟩, hT⟩
          | 11, _ => exact stepU rfl (unwantedOf rfl (yieldedAt rfl rfl (show a.eval (.tmp 39) = .bool (!false) from (hdep _ rfl 8 rfl _ rfl _ rfl)))) ⟨⟨_, rfl, rfl⟩, hT⟩
          | 12, _ => exact stepU rfl (unwantedOf rfl (yieldedAt rfl rfl (show a.eval (.tmp 39) = .bool (!false) from (hdep _ rfl 8 rfl _ rfl _ rfl)))) ⟨⟨_, rfl, rfl⟩, hT⟩
          | 13, _ => exact stepU rfl (unwantedOf rfl (yieldedAt rfl rfl (show a.eval (.tmp 39) = .bool (!false) from (hdep _ rfl 8 rfl _ rfl _ rfl)))) ⟨⟨_, rfl, rfl⟩, hT⟩
          | 14, _ => exact stepU rfl (unwantedOf rfl (yieldedAt rfl rfl (show a.eval (.tmp 39) = .bool (!false) from (hdep _ rfl 8 rfl _ rfl _ rfl)))) ⟨⟨_, rfl, rfl⟩, hT⟩
          | 15, _ => exact stepU rfl (unwantedOf rfl (yieldedAt rfl rfl (show a.eval (.tmp 39) = .bool (!false) from (hdep _ rfl 8 rfl _ rfl _ rfl)))) ⟨⟨_, rfl, rfl⟩, hT⟩
          | 16, _ => exact stepU rfl (unwantedOf rfl (yieldedAt rfl rfl (show a.eval (.tmp 39) = .bool (!false) from (hdep _ rfl 8 rfl _ rfl _ rfl)))) ⟨⟨_, rfl, rfl⟩, hT⟩
          | 17, _ => exact stepU rfl (unwantedOf rfl (yieldedAt rfl rfl (show a.eval (.tmp 39) = .bool (!false) from (hdep _ rfl 8 rfl _ rfl _ rfl)))) ⟨⟨_, rfl, rfl⟩, hT⟩
          | 18, _ => exact stepV rfl rfl (execPickT rfl (hdep _ rfl 8 rfl _ rfl _ rfl) rfl) ⟨⟨_, rfl, rfl⟩, hT⟩
          | k_ + 19, h_ => exact absurd h_ (by simp)
        intro l_ a X11 h1 h2 h3 h4 hall hT
        clear hall
        clear BB
        clear FX
        clear FU
        obtain ⟨BB, FX, FU⟩ := hT
        replace t0 := (h3 0 (by decide)).trans t0
        replace t1 := (h3 1 (by decide)).trans t1
        replace t6 := (h3 6 (by decide)).trans t6
        replace t8 := (h3 8 (by decide)).trans t8
        replace t9 := (h3 9 (by decide)).trans t9
        replace t10 := (h3 10 (by decide)).trans t10
        have t49 : a.eval (.tmp 49) = .bool true := h4 (18, 49) (by decide)
        replace A := (⟨h1, h2.trans A.2⟩ : a.tmps.size = 81 ∧ a.defers = [])
        clear h1 h2 h3 h4
        refine wp_cond_true t49 ?_
        refine wp_seq ?_
        clear FX FU
        refine wp_region_sq (σ := Unit) 81 [(0, 4), (1, 5)] (fun j_ s X => match j_ with | 0 => Below V.heap.size V X | 1 => Below V.heap.size V X | _ => Below V.heap.size V X) (fun s => fun i_ => match i_ with | 0 => .slice none 0 0 | 1 => .int .i64 ((2 : Nat) : Int) | _ => undef) () A.1 (by kernel_rfl) (by decide) (by decide) (BB) ?_ ?_
        · intro i_ hi_ s a X hf hv hn hS
          match i_, hi_ with
          | 0, _ => exact stepV rfl rfl (execAsgB rfl rfl) ⟨s, ⟨_, rfl, rfl⟩, hS, fun _ _ => rfl⟩
          | 1, _ => exact stepV rfl rfl (execAsgB rfl rfl) ⟨s, ⟨_, rfl, rfl⟩, hS, fun _ _ => rfl⟩
          | k_ + 2, h_ => exact absurd h_ (by simp)
        rintro _ a X12 h1 h2 h3 h4 hS
        clear BB
        replace hS : Below V.heap.size V X12 := hS
        have BB := hS
        clear hS
        have t4 : a.eval (.tmp 4) = .slice none 0 0 := h4 0 _ rfl _ rfl
        have t5 : a.eval (.tmp 5) = .int .i64 ((2 : Nat) : Int) := h4 1 _ rfl _ rfl
        replace A := (⟨h1, h2.trans A.2⟩ : a.tmps.size = 81 ∧ a.defers = [])
        clear h1 h2 h3 h4
        clear t0 t1 t6 t8 t9 t10
        have hE : weE cf n (gN lf) J = 2 := if_neg fun q => by have h_ := (stQ_iff.1 (we_st hG q)).1 i lti; omega
        rw [hE, zl_no (by decide)]
        refine wp_ret ?_
        repeat (first | with_reducible refine ret_in ?_ | with_reducible refine ret_then ?_)
        refine bodyPost_ret (results_tmp2 rfl _ _ _) A.2 ⟨_, ?_, World.ownsRow_nil _ _ _ _, BB⟩
        show Ending.returned (.tuple #[a.eval (.tmp 4), a.eval (.tmp 5)]) = _
        rw [t4, t5]
      · by_cases h2 : (J : Int) ≤ cf i
        · obtain ⟨c, ec0⟩ : ∃ c : Nat, cf i = c := ⟨(cf i).toNat, by omega⟩
          have ec : gN cf i = c := by show (cf i).toNat = c; omega
          refine wp_seq ?_
          refine wp_region_sq (σ := Unit) 81 [(0, 27), (1, 28), (2, 29), (3, 30), (4, 10)] (fun j_ s X => match j_ with | 0 => Below V.heap.size V X ∧ (X.ownsRow V.heap.size 3 1 y (J) (intsL (J) (fun j => (cntC (gN cf) j i : Int)))) ∧ (X.ownsRow V.heap.size 58 2 u i (intsL (i * 2) (rwH cf))) | 1 => Below V.heap.size V X ∧ (X.ownsRow V.heap.size 3 1 y (J) (intsL (J) (fun j => (cntC (gN cf) j i : Int)))) ∧ (X.ownsRow V.heap.size 58 2 u i (intsL (i * 2) (rwH cf))) | 2 => Below V.heap.size V X ∧ (X.ownsRow V.heap.size 3 1 y (J) (intsL (J) (fun j => (cntC (gN cf) j i : Int)))) ∧ (X.ownsRow V.heap.size 58 2 u i (intsL (i * 2) (rwH cf))) | 3 => Below V.heap.size V X ∧ (X.ownsRow V.heap.size 3 1 y (J) (intsL (J) (fun j => (cntC (gN cf) j i : Int)))) ∧ (X.ownsRow V.heap.size 58 2 u i (intsL (i * 2) (rwH cf))) | 4 => Below V.heap.size V X ∧ (X.ownsRow V.heap.size 3 1 y (J) (intsL (J) (fun j => (cntC (gN cf) j i : Int)))) ∧ (X.ownsRow V.heap.size 58 2 u i (intsL (i * 2) (rwH cf))) | _ => Below V.heap.size V X ∧ (X.ownsRow V.heap.size 3 1 y (J) (intsL (J) (fun j => (cntC (gN cf) j i : Int)))) ∧ (X.ownsRow V.heap.size 58 2 u i (intsL (i * 2) (rwH cf)))) (fun s => fun i_ => match i_ with | 0 => u0 | 1 => .int .i64 ((i : Nat) : Int) | 2 => .pointer (some ⟨ccb, cco + i, none⟩) | 3 => .int .i64 ((c : Nat) : Int) | 4 => .int .i64 ((c : Nat) : Int) | _ => undef) () A.1 (by kernel_rfl) (by decide) (by decide) ⟨BB, FX, FU⟩ ?_ ?_
          · intro i_ hi_ s a X hf hv hn hS
            match i_, hi_ with
            | 0, _ => exact stepV rfl rfl (execMvB rfl ((hf 0 (by decide)).trans t0)) ⟨s, ⟨_, rfl, rfl⟩, hS, fun _ _ => rfl⟩
            | 1, _ => exact stepV rfl rfl (execMvB rfl ((hf 9 (by decide)).trans t9)) ⟨s, ⟨_, rfl, rfl⟩, hS, fun _ _ => rfl⟩
            | 2, _ => exact stepV rfl rfl (execIdxN (k := i) rfl ((hv 0 (by decide) _ rfl _ rfl).trans ecc) (hv 1 (by decide) _ rfl _ rfl) lti) ⟨s, ⟨_, rfl, rfl⟩, hS, fun _ _ => rfl⟩
            | 3, _ => exact stepV rfl rfl (execLd3 rfl (hv 2 (by decide) _ rfl _ rfl) ((ccc i lti X hS.1).trans (by rw [ec0]))) ⟨s, ⟨_, rfl, rfl⟩, hS, fun _ _ => rfl⟩
            | 4, _ => exact stepV rfl rfl (execAsgB rfl (hv 3 (by decide) _ rfl _ rfl)) ⟨s, ⟨_, rfl, rfl⟩, hS, fun _ _ => rfl⟩
            | k_ + 5, h_ => exact absurd h_ (by simp)
          rintro _ a X10 h1 h2 h3 h4 hS
          clear BB
          clear FX
          clear FU
          replace hS : Below V.heap.size V X10 ∧ (X10.ownsRow V.heap.size 3 1 y (J) (intsL (J) (fun j => (cntC (gN cf) j i : Int)))) ∧ (X10.ownsRow V.heap.size 58 2 u i (intsL (i * 2) (rwH cf))) := hS
          obtain ⟨BB, FX, FU⟩ := hS
          replace t0 := (h3 0 (by decide)).trans t0
          replace t1 := (h3 1 (by decide)).trans t1
          replace t6 := (h3 6 (by decide)).trans t6
          replace t8 := (h3 8 (by decide)).trans t8
          replace t9 := (h3 9 (by decide)).trans t9
          have t10 : a.eval (.tmp 10) = .int .i64 ((c : Nat) : Int) := h4 4 _ rfl _ rfl
          replace A := (⟨h1, h2.trans A.2⟩ : a.tmps.size = 81 ∧ a.defers = [])
          clear h1 h2 h3 h4
          refine wp_seq ?_
          refine wp_seq ?_
          refine wp_region_detA 81 [(0, 31), (1, 32), (2, 33), (3, 34), (4, 35), (5, 36), (6, 37), (7, 38), (8, 39), (9, 40), (10, 41), (11, 42), (12, 43), (13, 44), (14, 45), (15, 46), (16, 47), (17, 48), (18, 49)] (fun i_ => match i_ with | 0 => .int .i64 ((c : Nat) : Int) | 1 => .bool false | 2 => .bool false | 3 => .int .i64 ((c : Nat) : Int) | 4 => v | 5 => .int .i64 ((J : Nat) : Int) | 6 => .bool true | 7 => .bool true | 8 => .bool true | 9 => undef | 10 => undef | 11 => undef | 12 => undef | 13 => undef | 14 => undef | 15 => undef | 16 => undef | 17 => undef | 18 => .bool true | _ => undef) (fun _ X => Below V.heap.size V X ∧ (X.ownsRow V.heap.size 3 1 y (J) (intsL (J) (fun j => (cntC (gN cf) j i : Int)))) ∧ (X.ownsRow V.heap.size 58 2 u i (intsL (i * 2) (rwH cf)))) (by kernel_rfl) (by kernel_rfl) A.1 (by kernel_rfl) (by decide) (by decide) ⟨BB.drew, (ownD_below FX (Below.refl _ _).drew), (ownD_below FU (Below.refl _ _).drew)⟩ ?_ ?_
          · intro i_ hi_ l_ a X hl_ hf hdep hl2 hcl hno hT
            match i_, hi_ with
            | 0, _ => exact stepV rfl rfl (execMvB rfl ((hf 10 (by decide)).trans t10)) ⟨⟨_, rfl, rfl⟩, hT⟩
            | 1, _ => exact stepV rfl rfl (execDec (execLtW (p := c) (q := 0) rfl (hdep _ rfl 0 rfl _ rfl _ rfl) rfl) (decide_eq_false (by omega))) ⟨⟨_, rfl, rfl⟩, hT⟩
            | 2, _ => exact stepV rfl rfl (execMvB rfl (hdep _ rfl 1 rfl _ rfl _ rfl)) ⟨⟨_, rfl, rfl⟩, hT⟩
            | 3, _ => exact stepV rfl (wantedOf rfl (yieldedAt rfl rfl (show a.eval (.tmp 33) = .bool false from (hdep _ rfl 2 rfl _ rfl _ rfl)))) (execMvB rfl ((hf 10 (by decide)).trans t10)) ⟨⟨_, rfl, rfl⟩, hT⟩
            | 4, _ => exact stepV rfl (wantedOf rfl (yieldedAt rfl rfl (show a.eval (.tmp 33) = .bool false from (hdep _ rfl 2 rfl _ rfl _ rfl)))) (execMvB rfl ((hf 1 (by decide)).trans t1)) ⟨⟨_, rfl, rfl⟩, hT⟩
            | 5, _ => exact stepV rfl (wantedOf rfl (yieldedAt rfl rfl (show a.eval (.tmp 33) = .bool false from (hdep _ rfl 2 rfl _ rfl _ rfl)))) (execLenI (len := J) rfl (hdep _ rfl 4 rfl _ rfl _ rfl) ((FI.on hT.1)).shp) ⟨⟨_, rfl, rfl⟩, hT⟩
            | 6, _ => exact stepV rfl (wantedOf rfl (yieldedAt rfl rfl (show a.eval (.tmp 33) = .bool false from (hdep _ rfl 2 rfl _ rfl _ rfl)))) (execDec (execGe8 (p := c) (q := J) rfl (hdep _ rfl 3 rfl _ rfl _ rfl) (hdep _ rfl 5 rfl _ rfl _ rfl)) (decide_eq_true (by omega))) ⟨⟨_, rfl, rfl⟩, hT⟩
            | 7, _ => exact stepV rfl rfl (execPickF rfl (hdep _ rfl 2 rfl _ rfl _ rfl) (hdep _ rfl 6 rfl _ rfl _ rfl)) ⟨⟨_, rfl, rfl⟩, hT⟩
            | 8, _ => exact stepV rfl rfl (execMvB rfl (hdep _ rfl 7 rfl _ rfl _ rfl)) ⟨⟨_, rfl, rfl⟩, hT⟩
            | 9, _ => exact stepU rfl (unwantedOf rfl (yieldedAt rfl rfl (show a.eval (.tmp 39) = .bool (!false) from (hdep _ rfl 8 rfl _ rfl _ rfl)))) ⟨⟨_, rfl, rfl⟩, hT⟩
            | 10, _ => exact stepU rfl (unwantedOf rfl (yieldedAt rfl rfl (show a.eval (.tmp 39) = .bool (!false) from (hdep _ rfl 8 rfl _ rfl _ rfl)))) ⟨⟨_, rfl, rfl⟩, hT⟩
            | 11, _ => exact stepU rfl (unwantedOf rfl (yieldedAt rfl rfl (show a.eval (.tmp 39) = .bool (!false) from (hdep _ rfl 8 rfl _ rfl _ rfl)))) ⟨⟨_, rfl, rfl⟩, hT⟩
            | 12, _ => exact stepU rfl (unwantedOf rfl (yieldedAt rfl rfl (show a.eval (.tmp 39) = .bool (!false) from (hdep _ rfl 8 rfl _ rfl _ rfl)))) ⟨⟨_, rfl, rfl⟩, hT⟩
            | 13, _ => exact stepU rfl (unwantedOf rfl (yieldedAt rfl rfl (show a.eval (.tmp 39) = .bool (!false) from (hdep _ rfl 8 rfl _ rfl _ rfl)))) ⟨⟨_, rfl, rfl⟩, hT⟩
            | 14, _ => exact stepU rfl (unwantedOf rfl (yieldedAt rfl rfl (show a.eval (.tmp 39) = .bool (!false) from (hdep _ rfl 8 rfl _ rfl _ rfl)))) ⟨⟨_, rfl, rfl⟩, hT⟩
            | 15, _ => exact stepU rfl (unwantedOf rfl (yieldedAt rfl rfl (show a.eval (.tmp 39) = .bool (!false) from (hdep _ rfl 8 rfl _ rfl _ rfl)))) ⟨⟨_, rfl, rfl⟩, hT⟩
            | 16, _ => exact stepU rfl (unwantedOf rfl (yieldedAt rfl rfl (show a.eval (.tmp 39) = .bool (!false) from (hdep _ rfl 8 rfl _ rfl _ rfl)))) ⟨⟨_, rfl, rfl⟩, hT⟩
            | 17, _ => exact stepU rfl (unwantedOf rfl (yieldedAt rfl rfl (show a.eval (.tmp 39) = .bool (!false) from (hdep _ rfl 8 rfl _ rfl _ rfl)))) ⟨⟨_, rfl, rfl⟩, hT⟩
            | 18, _ => exact stepV rfl rfl (execPickT rfl (hdep _ rfl 8 rfl _ rfl _ rfl) rfl) ⟨⟨_, rfl, rfl⟩, hT⟩
            | k_ + 19, h_ => exact absurd h_ (by simp)
          intro l_ a X11 h1 h2 h3 h4 hall hT
          clear hall
          clear BB
          clear FX
          clear FU
          obtain ⟨BB, FX, FU⟩ := hT
          replace t0 := (h3 0 (by decide)).trans t0
          replace t1 := (h3 1 (by decide)).trans t1
          replace t6 := (h3 6 (by decide)).trans t6
          replace t8 := (h3 8 (by decide)).trans t8
          replace t9 := (h3 9 (by decide)).trans t9
          replace t10 := (h3 10 (by decide)).trans t10
          have t49 : a.eval (.tmp 49) = .bool true := h4 (18, 49) (by decide)
          replace A := (⟨h1, h2.trans A.2⟩ : a.tmps.size = 81 ∧ a.defers = [])
          clear h1 h2 h3 h4
          refine wp_cond_true t49 ?_
          refine wp_seq ?_
          clear FX FU
          refine wp_region_sq (σ := Unit) 81 [(0, 4), (1, 5)] (fun j_ s X => match j_ with | 0 => Below V.heap.size V X | 1 => Below V.heap.size V X | _ => Below V.heap.size V X) (fun s => fun i_ => match i_ with | 0 => .slice none 0 0 | 1 => .int .i64 ((2 : Nat) : Int) | _ => undef) () A.1 (by kernel_rfl) (by decide) (by decide) (BB) ?_ ?_
          · intro i_ hi_ s a X hf hv hn hS
            match i_, hi_ with
            | 0, _ => exact stepV rfl rfl (execAsgB rfl rfl) ⟨s, ⟨_, rfl, rfl⟩, hS, fun _ _ => rfl⟩
            | 1, _ => exact stepV rfl rfl (execAsgB rfl rfl) ⟨s, ⟨_, rfl, rfl⟩, hS, fun _ _ => rfl⟩
            | k_ + 2, h_ => exact absurd h_ (by simp)
          rintro _ a X12 h1 h2 h3 h4 hS
          clear BB
          replace hS : Below V.heap.size V X12 := hS
          have BB := hS
          clear hS
          have t4 : a.eval (.tmp 4) = .slice none 0 0 := h4 0 _ rfl _ rfl
          have t5 : a.eval (.tmp 5) = .int .i64 ((2 : Nat) : Int) := h4 1 _ rfl _ rfl
          replace A := (⟨h1, h2.trans A.2⟩ : a.tmps.size = 81 ∧ a.defers = [])
          clear h1 h2 h3 h4
          clear t0 t1 t6 t8 t9 t10
          have hE : weE cf n (gN lf) J = 2 := if_neg fun q => by have h_ := (stQ_iff.1 (we_st hG q)).1 i lti; omega
          rw [hE, zl_no (by decide)]
          refine wp_ret ?_
          repeat (first | with_reducible refine ret_in ?_ | with_reducible refine ret_then ?_)
          refine bodyPost_ret (results_tmp2 rfl _ _ _) A.2 ⟨_, ?_, World.ownsRow_nil _ _ _ _, BB⟩
          show Ending.returned (.tuple #[a.eval (.tmp 4), a.eval (.tmp 5)]) = _
          rw [t4, t5]
        · by_cases h3 : gN lf (gN cf i) ≤ cntC (gN cf) (gN cf i) i
          · obtain ⟨c, ec0⟩ : ∃ c : Nat, cf i = c := ⟨(cf i).toNat, by omega⟩
            have ec : gN cf i = c := by show (cf i).toNat = c; omega
            have hcJ : c < J := by omega
            obtain ⟨gy, cy, ey, hBy, _⟩ := ownL_some9 FX (by omega)
            obtain ⟨q_, eq⟩ : ∃ q_, cntC (gN cf) c i = q_ := ⟨_, rfl⟩
            obtain ⟨lq, el⟩ : ∃ lq, gN lf c = lq := ⟨_, rfl⟩
            have el0 : lf c = (lq : Int) := by rw [← el]; have := hG.1 c hcJ; show lf c = (((lf c).toNat : Nat) : Int); omega
            rw [ec, eq, el] at h3
            have hqn := cnt_le (gN cf) c i
            rw [eq] at hqn
            obtain ⟨llb, llo, llc, ell, hllb, hllc⟩ := open_sl FI (by omega)
            have cll : ∀ k, k < J → ∀ X, Below V.heap.size V X → X.cell? ⟨llb, llo + k, none⟩ = some (.int .i64 ((lf) k)) := fun k hk X hX => by rw [cell_below hX hllb]; exact hllc k hk
            refine wp_seq ?_
            refine wp_region_sq (σ := Unit) 81 [(0, 27), (1, 28), (2, 29), (3, 30), (4, 10)] (fun j_ s X => match j_ with | 0 => Below V.heap.size V X ∧ (X.ownsRow V.heap.size 3 1 y (J) (intsL (J) (fun j => (cntC (gN cf) j i : Int)))) ∧ (X.ownsRow V.heap.size 58 2 u i (intsL (i * 2) (rwH cf))) | 1 => Below V.heap.size V X ∧ (X.ownsRow V.heap.size 3 1 y (J) (intsL (J) (fun j => (cntC (gN cf) j i : Int)))) ∧ (X.ownsRow V.heap.size 58 2 u i (intsL (i * 2) (rwH cf))) | 2 => Below V.heap.size V X ∧ (X.ownsRow V.heap.size 3 1 y (J) (intsL (J) (fun j => (cntC (gN cf) j i : Int)))) ∧ (X.ownsRow V.heap.size 58 2 u i (intsL (i * 2) (rwH cf))) | 3 => Below V.heap.size V X ∧ (X.ownsRow V.heap.size 3 1 y (J) (intsL (J) (fun j => (cntC (gN cf) j i : Int)))) ∧ (X.ownsRow V.heap.size 58 2 u i (intsL (i * 2) (rwH cf))) | 4 => Below V.heap.size V X ∧ (X.ownsRow V.heap.size 3 1 y (J) (intsL (J) (fun j => (cntC (gN cf) j i : Int)))) ∧ (X.ownsRow V.heap.size 58 2 u i (intsL (i * 2) (rwH cf))) | _ => Below V.heap.size V X ∧ (X.ownsRow V.heap.size 3 1 y (J) (intsL (J) (fun j => (cntC (gN cf) j i : Int)))) ∧ (X.ownsRow V.heap.size 58 2 u i (intsL (i * 2) (rwH cf)))) (fun s => fun i_ => match i_ with | 0 => u0 | 1 => .int .i64 ((i : Nat) : Int) | 2 => .pointer (some ⟨ccb, cco + i, none⟩) | 3 => .int .i64 ((c : Nat) : Int) | 4 => .int .i64 ((c : Nat) : Int) | _ => undef) () A.1 (by kernel_rfl) (by decide) (by decide) ⟨BB, FX, FU⟩ ?_ ?_
            · intro i_ hi_ s a X hf hv hn hS
              match i_, hi_ with
              | 0, _ => exact stepV rfl rfl (execMvB rfl ((hf 0 (by decide)).trans t0)) ⟨s, ⟨_, rfl, rfl⟩, hS, fun _ _ => rfl⟩
              | 1, _ => exact stepV rfl rfl (execMvB rfl ((hf 9 (by decide)).trans t9)) ⟨s, ⟨_, rfl, rfl⟩, hS, fun _ _ => rfl⟩
              | 2, _ => exact stepV rfl rfl (execIdxN (k := i) rfl ((hv 0 (by decide) _ rfl _ rfl).trans ecc) (hv 1 (by decide) _ rfl _ rfl) lti) ⟨s, ⟨_, rfl, rfl⟩, hS, fun _ _ => rfl⟩
              | 3, _ => exact stepV rfl rfl (execLd3 rfl (hv 2 (by decide) _ rfl _ rfl) ((ccc i lti X hS.1).trans (by rw [ec0]))) ⟨s, ⟨_, rfl, rfl⟩, hS, fun _ _ => rfl⟩
              | 4, _ => exact stepV rfl rfl (execAsgB rfl (hv 3 (by decide) _ rfl _ rfl)) ⟨s, ⟨_, rfl, rfl⟩, hS, fun _ _ => rfl⟩
              | k_ + 5, h_ => exact absurd h_ (by simp)
            rintro _ a X10 h1 h2 h3 h4 hS
            clear BB
            clear FX
            clear FU
            replace hS : Below V.heap.size V X10 ∧ (X10.ownsRow V.heap.size 3 1 y (J) (intsL (J) (fun j => (cntC (gN cf) j i : Int)))) ∧ (X10.ownsRow V.heap.size 58 2 u i (intsL (i * 2) (rwH cf))) := hS
            obtain ⟨BB, FX, FU⟩ := hS
            replace t0 := (h3 0 (by decide)).trans t0
            replace t1 := (h3 1 (by decide)).trans t1
            replace t6 := (h3 6 (by decide)).trans t6
            replace t8 := (h3 8 (by decide)).trans t8
            replace t9 := (h3 9 (by decide)).trans t9
            have t10 : a.eval (.tmp 10) = .int .i64 ((c : Nat) : Int) := h4 4 _ rfl _ rfl
            replace A := (⟨h1, h2.trans A.2⟩ : a.tmps.size = 81 ∧ a.defers = [])
            clear h1 h2 h3 h4
            refine wp_seq ?_
            refine wp_seq ?_
            refine wp_region_detA 81 [(0, 31), (1, 32), (2, 33), (3, 34), (4, 35), (5, 36), (6, 37), (7, 38), (8, 39), (9, 40), (10, 41), (11, 42), (12, 43), (13, 44), (14, 45), (15, 46), (16, 47), (17, 48), (18, 49)] (fun i_ => match i_ with | 0 => .int .i64 ((c : Nat) : Int) | 1 => .bool false | 2 => .bool false | 3 => .int .i64 ((c : Nat) : Int) | 4 => v | 5 => .int .i64 ((J : Nat) : Int) | 6 => .bool false | 7 => .bool false | 8 => .bool false | 9 => y | 10 => .int .i64 ((c : Nat) : Int) | 11 => .pointer (some ⟨gy, 0 + c, none⟩) | 12 => .int .i64 ((q_ : Nat) : Int) | 13 => v | 14 => .int .i64 ((c : Nat) : Int) | 15 => .pointer (some ⟨llb, llo + c, none⟩) | 16 => .int .i64 ((lq : Nat) : Int) | 17 => .bool true | 18 => .bool true | _ => undef) (fun _ X => Below V.heap.size V X ∧ (X.ownsRow V.heap.size 3 1 y (J) (intsL (J) (fun j => (cntC (gN cf) j i : Int)))) ∧ (X.ownsRow V.heap.size 58 2 u i (intsL (i * 2) (rwH cf)))) (by kernel_rfl) (by kernel_rfl) A.1 (by kernel_rfl) (by decide) (by decide) ⟨BB.drew, (ownD_below FX (Below.refl _ _).drew), (ownD_below FU (Below.refl _ _).drew)⟩ ?_ ?_
            · intro i_ hi_ l_ a X hl_ hf hdep hl2 hcl hno hT
              match i_, hi_ with
              | 0, _ => exact stepV rfl rfl (execMvB rfl ((hf 10 (by decide)).trans t10)) ⟨⟨_, rfl, rfl⟩, hT⟩
              | 1, _ => exact stepV rfl rfl (execDec (execLtW (p := c) (q := 0) rfl (hdep _ rfl 0 rfl _ rfl _ rfl) rfl) (decide_eq_false (by omega))) ⟨⟨_, rfl, rfl⟩, hT⟩
              | 2, _ => exact stepV rfl rfl (execMvB rfl (hdep _ rfl 1 rfl _ rfl _ rfl)) ⟨⟨_, rfl, rfl⟩, hT⟩
              | 3, _ => exact stepV rfl (wantedOf rfl (yieldedAt rfl rfl (show a.eval (.tmp 33) = .bool false from (hdep _ rfl 2 rfl _ rfl _ rfl)))) (execMvB rfl ((hf 10 (by decide)).trans t10)) ⟨⟨_, rfl, rfl⟩, hT⟩
              | 4, _ => exact stepV rfl (wantedOf rfl (yieldedAt rfl rfl (show a.eval (.tmp 33) = .bool false from (hdep _ rfl 2 rfl _ rfl _ rfl)))) (execMvB rfl ((hf 1 (by decide)).trans t1)) ⟨⟨_, rfl, rfl⟩, hT⟩
              | 5, _ => exact stepV rfl (wantedOf rfl (yieldedAt rfl rfl (show a.eval (.tmp 33) = .bool false from (hdep _ rfl 2 rfl _ rfl _ rfl)))) (execLenI (len := J) rfl (hdep _ rfl 4 rfl _ rfl _ rfl) ((FI.on hT.1)).shp) ⟨⟨_, rfl, rfl⟩, hT⟩
              | 6, _ => exact stepV rfl (wantedOf rfl (yieldedAt rfl rfl (show a.eval (.tmp 33) = .bool false from (hdep _ rfl 2 rfl _ rfl _ rfl)))) (execDec (execGe8 (p := c) (q := J) rfl (hdep _ rfl 3 rfl _ rfl _ rfl) (hdep _ rfl 5 rfl _ rfl _ rfl)) (decide_eq_false (by omega))) ⟨⟨_, rfl, rfl⟩, hT⟩
              | 7, _ => exact stepV rfl rfl (execPickF rfl (hdep _ rfl 2 rfl _ rfl _ rfl) (hdep _ rfl 6 rfl _ rfl _ rfl)) ⟨⟨_, rfl, rfl⟩, hT⟩
              | 8, _ => exact stepV rfl rfl (execMvB rfl (hdep _ rfl 7 rfl _ rfl _ rfl)) ⟨⟨_, rfl, rfl⟩, hT⟩
              | 9, _ => exact stepV rfl (wantedOf rfl (yieldedAt rfl rfl (show a.eval (.tmp 39) = .bool false from (hdep _ rfl 8 rfl _ rfl _ rfl)))) (execMvB rfl ((hf 6 (by decide)).trans t6)) ⟨⟨_, rfl, rfl⟩, hT⟩
              | 10, _ => exact stepV rfl (wantedOf rfl (yieldedAt rfl rfl (show a.eval (.tmp 39) = .bool false from (hdep _ rfl 8 rfl _ rfl _ rfl)))) (execMvB rfl ((hf 10 (by decide)).trans t10)) ⟨⟨_, rfl, rfl⟩, hT⟩
              | 11, _ => exact stepV rfl (wantedOf rfl (yieldedAt rfl rfl (show a.eval (.tmp 39) = .bool false from (hdep _ rfl 8 rfl _ rfl _ rfl)))) (execIdxN (k := c) rfl ((hdep _ rfl 9 rfl _ rfl _ rfl).trans ey) (hdep _ rfl 10 rfl _ rfl _ rfl) hcJ) ⟨⟨_, rfl, rfl⟩, hT⟩
              | 12, _ => exact stepV rfl (wantedOf rfl (yieldedAt rfl rfl (show a.eval (.tmp 39) = .bool false from (hdep _ rfl 8 rfl _ rfl _ rfl)))) (execLd3 rfl (hdep _ rfl 11 rfl _ rfl _ rfl) ((own_cellI (by have h_ := hT.2.1; rw [ey] at h_; exact h_) hcJ).1.trans (by rw [eq]))) ⟨⟨_, rfl, rfl⟩, hT⟩
              | 13, _ => exact stepV rfl (wantedOf rfl (yieldedAt rfl rfl (show a.eval (.tmp 39) = .bool false from (hdep _ rfl 8 rfl _ rfl _ rfl)))) (execMvB rfl ((hf 1 (by decide)).trans t1)) ⟨⟨_, rfl, rfl⟩, hT⟩
              | 14, _ => exact stepV rfl (wantedOf rfl (yieldedAt rfl rfl (show a.eval (.tmp 39) = .bool false from (hdep _ rfl 8 rfl _ rfl _ rfl)))) (execMvB rfl ((hf 10 (by decide)).trans t10)) ⟨⟨_, rfl, rfl⟩, hT⟩
              | 15, _ => exact stepV rfl (wantedOf rfl (yieldedAt rfl rfl (show a.eval (.tmp 39) = .bool false from (hdep _ rfl 8 rfl _ rfl _ rfl)))) (execIdxN (k := c) rfl ((hdep _ rfl 13 rfl _ rfl _ rfl).trans ell) (hdep _ rfl 14 rfl _ rfl _ rfl) hcJ) ⟨⟨_, rfl, rfl⟩, hT⟩
              | 16, _ => exact stepV rfl (wantedOf rfl (yieldedAt rfl rfl (show a.eval (.tmp 39) = .bool false from (hdep _ rfl 8 rfl _ rfl _ rfl)))) (execLd3 rfl (hdep _ rfl 15 rfl _ rfl _ rfl) ((cll c hcJ X hT.1).trans (by rw [el0]))) ⟨⟨_, rfl, rfl⟩, hT⟩
              | 17, _ => exact stepV rfl (wantedOf rfl (yieldedAt rfl rfl (show a.eval (.tmp 39) = .bool false from (hdep _ rfl 8 rfl _ rfl _ rfl)))) (execDec (execGe8 (p := q_) (q := lq) rfl (hdep _ rfl 12 rfl _ rfl _ rfl) (hdep _ rfl 16 rfl _ rfl _ rfl)) (decide_eq_true (by omega))) ⟨⟨_, rfl, rfl⟩, hT⟩
              | 18, _ => exact stepV rfl rfl (execPickF rfl (hdep _ rfl 8 rfl _ rfl _ rfl) (hdep _ rfl 17 rfl _ rfl _ rfl)) ⟨⟨_, rfl, rfl⟩, hT⟩
              | k_ + 19, h_ => exact absurd h_ (by simp)
            intro l_ a X11 h1 h2 h3 h4 hall hT
            clear hall
            clear BB
            clear FX
            clear FU
            obtain ⟨BB, FX, FU⟩ := hT
            replace t0 := (h3 0 (by decide)).trans t0
            replace t1 := (h3 1 (by decide)).trans t1
            replace t6 := (h3 6 (by decide)).trans t6
            replace t8 := (h3 8 (by decide)).trans t8
            replace t9 := (h3 9 (by decide)).trans t9
            replace t10 := (h3 10 (by decide)).trans t10
            have t49 : a.eval (.tmp 49) = .bool true := h4 (18, 49) (by decide)
            replace A := (⟨h1, h2.trans A.2⟩ : a.tmps.size = 81 ∧ a.defers = [])
            clear h1 h2 h3 h4
            refine wp_cond_true t49 ?_
            refine wp_seq ?_
            clear FX FU
            refine wp_region_sq (σ := Unit) 81 [(0, 4), (1, 5)] (fun j_ s X => match j_ with | 0 => Below V.heap.size V X | 1 => Below V.heap.size V X | _ => Below V.heap.size V X) (fun s => fun i_ => match i_ with | 0 => .slice none 0 0 | 1 => .int .i64 ((2 : Nat) : Int) | _ => undef) () A.1 (by kernel_rfl) (by decide) (by decide) (BB) ?_ ?_
            · intro i_ hi_ s a X hf hv hn hS
              match i_, hi_ with
              | 0, _ => exact stepV rfl rfl (execAsgB rfl rfl) ⟨s, ⟨_, rfl, rfl⟩, hS, fun _ _ => rfl⟩
              | 1, _ => exact stepV rfl rfl (execAsgB rfl rfl) ⟨s, ⟨_, rfl, rfl⟩, hS, fun _ _ => rfl⟩
              | k_ + 2, h_ => exact absurd h_ (by simp)
            rintro _ a X12 h1 h2 h3 h4 hS
            clear BB
            replace hS : Below V.heap.size V X12 := hS
            have BB := hS
            clear hS
            have t4 : a.eval (.tmp 4) = .slice none 0 0 := h4 0 _ rfl _ rfl
            have t5 : a.eval (.tmp 5) = .int .i64 ((2 : Nat) : Int) := h4 1 _ rfl _ rfl
            replace A := (⟨h1, h2.trans A.2⟩ : a.tmps.size = 81 ∧ a.defers = [])
            clear h1 h2 h3 h4
            clear t0 t1 t6 t8 t9 t10
            have hE : weE cf n (gN lf) J = 2 := if_neg fun q => by have h_ := (stQ_iff.1 (we_st hG q)).2 c hcJ; have h2_ := cntC_at (C := gN cf) lti rfl; rw [ec, eq] at h2_; rw [el0] at h_; omega
            rw [hE, zl_no (by decide)]
            refine wp_ret ?_
            repeat (first | with_reducible refine ret_in ?_ | with_reducible refine ret_then ?_)
            refine bodyPost_ret (results_tmp2 rfl _ _ _) A.2 ⟨_, ?_, World.ownsRow_nil _ _ _ _, BB⟩
            show Ending.returned (.tuple #[a.eval (.tmp 4), a.eval (.tmp 5)]) = _
            rw [t4, t5]
          · have h3o := h3
            obtain ⟨c, ec0⟩ : ∃ c : Nat, cf i = c := ⟨(cf i).toNat, by omega⟩
            have ec : gN cf i = c := by show (cf i).toNat = c; omega
            have hcJ : c < J := by omega
            obtain ⟨gy, cy, ey, hBy, _⟩ := ownL_some9 FX (by omega)
            obtain ⟨q_, eq⟩ : ∃ q_, cntC (gN cf) c i = q_ := ⟨_, rfl⟩
            obtain ⟨lq, el⟩ : ∃ lq, gN lf c = lq := ⟨_, rfl⟩
            have el0 : lf c = (lq : Int) := by rw [← el]; have := hG.1 c hcJ; show lf c = (((lf c).toNat : Nat) : Int); omega
            rw [ec, eq, el] at h3
            have hqn := cnt_le (gN cf) c i
            rw [eq] at hqn
            obtain ⟨llb, llo, llc, ell, hllb, hllc⟩ := open_sl FI (by omega)
            have cll : ∀ k, k < J → ∀ X, Below V.heap.size V X → X.cell? ⟨llb, llo + k, none⟩ = some (.int .i64 ((lf) k)) := fun k hk X hX => by rw [cell_below hX hllb]; exact hllc k hk
            refine wp_seq ?_
            refine wp_region_sq (σ := Unit) 81 [(0, 27), (1, 28), (2, 29), (3, 30), (4, 10)] (fun j_ s X => match j_ with | 0 => Below V.heap.size V X ∧ (X.ownsRow V.heap.size 3 1 y (J) (intsL (J) (fun j => (cntC (gN cf) j i : Int)))) ∧ (X.ownsRow V.heap.size 58 2 u i (intsL (i * 2) (rwH cf))) | 1 => Below V.heap.size V X ∧ (X.ownsRow V.heap.size 3 1 y (J) (intsL (J) (fun j => (cntC (gN cf) j i : Int)))) ∧ (X.ownsRow V.heap.size 58 2 u i (intsL (i * 2) (rwH cf))) | 2 => Below V.heap.size V X ∧ (X.ownsRow V.heap.size 3 1 y (J) (intsL (J) (fun j => (cntC (gN cf) j i : Int)))) ∧ (X.ownsRow V.heap.size 58 2 u i (intsL (i * 2) (rwH cf))) | 3 => Below V.heap.size V X ∧ (X.ownsRow V.heap.size 3 1 y (J) (intsL (J) (fun j => (cntC (gN cf) j i : Int)))) ∧ (X.ownsRow V.heap.size 58 2 u i (intsL (i * 2) (rwH cf))) | 4 => Below V.heap.size V X ∧ (X.ownsRow V.heap.size 3 1 y (J) (intsL (J) (fun j => (cntC (gN cf) j i : Int)))) ∧ (X.ownsRow V.heap.size 58 2 u i (intsL (i * 2) (rwH cf))) | _ => Below V.heap.size V X ∧ (X.ownsRow V.heap.size 3 1 y (J) (intsL (J) (fun j => (cntC (gN cf) j i : Int)))) ∧ (X.ownsRow V.heap.size 58 2 u i (intsL (i * 2) (rwH cf)))) (fun s => fun i_ => match i_ with | 0 => u0 | 1 => .int .i64 ((i : Nat) : Int) | 2 => .pointer (some ⟨ccb, cco + i, none⟩) | 3 => .int .i64 ((c : Nat) : Int) | 4 => .int .i64 ((c : Nat) : Int) | _ => undef) () A.1 (by kernel_rfl) (by decide) (by decide) ⟨BB, FX, FU⟩ ?_ ?_
            · intro i_ hi_ s a X hf hv hn hS
              match i_, hi_ with
              | 0, _ => exact stepV rfl rfl (execMvB rfl ((hf 0 (by decide)).trans t0)) ⟨s, ⟨_, rfl, rfl⟩, hS, fun _ _ => rfl⟩
              | 1, _ => exact stepV rfl rfl (execMvB rfl ((hf 9 (by decide)).trans t9)) ⟨s, ⟨_, rfl, rfl⟩, hS, fun _ _ => rfl⟩
              | 2, _ => exact stepV rfl rfl (execIdxN (k := i) rfl ((hv 0 (by decide) _ rfl _ rfl).trans ecc) (hv 1 (by decide) _ rfl _ rfl) lti) ⟨s, ⟨_, rfl, rfl⟩, hS, fun _ _ => rfl⟩
              | 3, _ => exact stepV rfl rfl (execLd3 rfl (hv 2 (by decide) _ rfl _ rfl) ((ccc i lti X hS.1).trans (by rw [ec0]))) ⟨s, ⟨_, rfl, rfl⟩, hS, fun _ _ => rfl⟩
              | 4, _ => exact stepV rfl rfl (execAsgB rfl (hv 3 (by decide) _ rfl _ rfl)) ⟨s, ⟨_, rfl, rfl⟩, hS, fun _ _ => rfl⟩
              | k_ + 5, h_ => exact absurd h_ (by simp)
            rintro _ a X10 h1 h2 h3 h4 hS
            clear BB
            clear FX
            clear FU
            replace hS : Below V.heap.size V X10 ∧ (X10.ownsRow V.heap.size 3 1 y (J) (intsL (J) (fun j => (cntC (gN cf) j i : Int)))) ∧ (X10.ownsRow V.heap.size 58 2 u i (intsL (i * 2) (rwH cf))) := hS
            obtain ⟨BB, FX, FU⟩ := hS
            replace t0 := (h3 0 (by decide)).trans t0
            replace t1 := (h3 1 (by decide)).trans t1
            replace t6 := (h3 6 (by decide)).trans t6
            replace t8 := (h3 8 (by decide)).trans t8
            replace t9 := (h3 9 (by decide)).trans t9
            have t10 : a.eval (.tmp 10) = .int .i64 ((c : Nat) : Int) := h4 4 _ rfl _ rfl
            replace A := (⟨h1, h2.trans A.2⟩ : a.tmps.size = 81 ∧ a.defers = [])
            clear h1 h2 h3 h4
            refine wp_seq ?_
            refine wp_seq ?_
            refine wp_region_detA 81 [(0, 31), (1, 32), (2, 33), (3, 34), (4, 35), (5, 36), (6, 37), (7, 38), (8, 39), (9, 40), (10, 41), (11, 42), (12, 43), (13, 44), (14, 45), (15, 46), (16, 47), (17, 48), (18, 49)] (fun i_ => match i_ with | 0 => .int .i64 ((c : Nat) : Int) | 1 => .bool false | 2 => .bool false | 3 => .int .i64 ((c : Nat) : Int) | 4 => v | 5 => .int .i64 ((J : Nat) : Int) | 6 => .bool false | 7 => .bool false | 8 => .bool false | 9 => y | 10 => .int .i64 ((c : Nat) : Int) | 11 => .pointer (some ⟨gy, 0 + c, none⟩) | 12 => .int .i64 ((q_ : Nat) : Int) | 13 => v | 14 => .int .i64 ((c : Nat) : Int) | 15 => .pointer (some ⟨llb, llo + c, none⟩) | 16 => .int .i64 ((lq : Nat) : Int) | 17 => .bool false | 18 => .bool false | _ => undef) (fun _ X => Below V.heap.size V X ∧ (X.ownsRow V.heap.size 3 1 y (J) (intsL (J) (fun j => (cntC (gN cf) j i : Int)))) ∧ (X.ownsRow V.heap.size 58 2 u i (intsL (i * 2) (rwH cf)))) (by kernel_rfl) (by kernel_rfl) A.1 (by kernel_rfl) (by decide) (by decide) ⟨BB.drew, (ownD_below FX (Below.refl _ _).drew), (ownD_below FU (Below.refl _ _).drew)⟩ ?_ ?_
            · intro i_ hi_ l_ a X hl_ hf hdep hl2 hcl hno hT
              match i_, hi_ with
              | 0, _ => exact stepV rfl rfl (execMvB rfl ((hf 10 (by decide)).trans t10)) ⟨⟨_, rfl, rfl⟩, hT⟩
              | 1, _ => exact stepV rfl rfl (execDec (execLtW (p := c) (q := 0) rfl (hdep _ rfl 0 rfl _ rfl _ rfl) rfl) (decide_eq_false (by omega))) ⟨⟨_, rfl, rfl⟩, hT⟩
              | 2, _ => exact stepV rfl rfl (execMvB rfl (hdep _ rfl 1 rfl _ rfl _ rfl)) ⟨⟨_, rfl, rfl⟩, hT⟩
              | 3, _ => exact stepV rfl (wantedOf rfl (yieldedAt rfl rfl (show a.eval (.tmp 33) = .bool false from (hdep _ rfl 2 rfl _ rfl _ rfl)))) (execMvB rfl ((hf 10 (by decide)).trans t10)) ⟨⟨_, rfl, rfl⟩, hT⟩
              | 4, _ => exact stepV rfl (wantedOf rfl (yieldedAt rfl rfl (show a.eval (.tmp 33) = .bool false from (hdep _ rfl 2 rfl _ rfl _ rfl)))) (execMvB rfl ((hf 1 (by decide)).trans t1)) ⟨⟨_, rfl, rfl⟩, hT⟩
              | 5, _ => exact stepV rfl (wantedOf rfl (yieldedAt rfl rfl (show a.eval (.tmp 33) = .bool false from (hdep _ rfl 2 rfl _ rfl _ rfl)))) (execLenI (len := J) rfl (hdep _ rfl 4 rfl _ rfl _ rfl) ((FI.on hT.1)).shp) ⟨⟨_, rfl, rfl⟩, hT⟩
              | 6, _ => exact stepV rfl (wantedOf rfl (yieldedAt rfl rfl (show a.eval (.tmp 33) = .bool false from (hdep _ rfl 2 rfl _ rfl _ rfl)))) (execDec (execGe8 (p := c) (q := J) rfl (hdep _ rfl 3 rfl _ rfl _ rfl) (hdep _ rfl 5 rfl _ rfl _ rfl)) (decide_eq_false (by omega))) ⟨⟨_, rfl, rfl⟩, hT⟩
              | 7, _ => exact stepV rfl rfl (execPickF rfl (hdep _ rfl 2 rfl _ rfl _ rfl) (hdep _ rfl 6 rfl _ rfl _ rfl)) ⟨⟨_, rfl, rfl⟩, hT⟩
              | 8, _ => exact stepV rfl rfl (execMvB rfl (hdep _ rfl 7 rfl _ rfl _ rfl)) ⟨⟨_, rfl, rfl⟩, hT⟩
              | 9, _ => exact stepV rfl (wantedOf rfl (yieldedAt rfl rfl (show a.eval (.tmp 39) = .bool false from (hdep _ rfl 8 rfl _ rfl _ rfl)))) (execMvB rfl ((hf 6 (by decide)).trans t6)) ⟨⟨_, rfl, rfl⟩, hT⟩
              | 10, _ => exact stepV rfl (wantedOf rfl (yieldedAt rfl rfl (show a.eval (.tmp 39) = .bool false from (hdep _ rfl 8 rfl _ rfl _ rfl)))) (execMvB rfl ((hf 10 (by decide)).trans t10)) ⟨⟨_, rfl, rfl⟩, hT⟩
              | 11, _ => exact stepV rfl (wantedOf rfl (yieldedAt rfl rfl (show a.eval (.tmp 39) = .bool false from (hdep _ rfl 8 rfl _ rfl _ rfl)))) (execIdxN (k := c) rfl ((hdep _ rfl 9 rfl _ rfl _ rfl).trans ey) (hdep _ rfl 10 rfl _ rfl _ rfl) hcJ) ⟨⟨_, rfl, rfl⟩, hT⟩
              | 12, _ => exact stepV rfl (wantedOf rfl (yieldedAt rfl rfl (show a.eval (.tmp 39) = .bool false from (hdep _ rfl 8 rfl _ rfl _ rfl)))) (execLd3 rfl (hdep _ rfl 11 rfl _ rfl _ rfl) ((own_cellI (by have h_ := hT.2.1; rw [ey] at h_; exact h_) hcJ).1.trans (by rw [eq]))) ⟨⟨_, rfl, rfl⟩, hT⟩
              | 13, _ => exact stepV rfl (wantedOf rfl (yieldedAt rfl rfl (show a.eval (.tmp 39) = .bool false from (hdep _ rfl 8 rfl _ rfl _ rfl)))) (execMvB rfl ((hf 1 (by decide)).trans t1)) ⟨⟨_, rfl, rfl⟩, hT⟩
              | 14, _ => exact stepV rfl (wantedOf rfl (yieldedAt rfl rfl (show a.eval (.tmp 39) = .bool false from (hdep _ rfl 8 rfl _ rfl _ rfl)))) (execMvB rfl ((hf 10 (by decide)).trans t10)) ⟨⟨_, rfl, rfl⟩, hT⟩
              | 15, _ => exact stepV rfl (wantedOf rfl (yieldedAt rfl rfl (show a.eval (.tmp 39) = .bool false from (hdep _ rfl 8 rfl _ rfl _ rfl)))) (execIdxN (k := c) rfl ((hdep _ rfl 13 rfl _ rfl _ rfl).trans ell) (hdep _ rfl 14 rfl _ rfl _ rfl) hcJ) ⟨⟨_, rfl, rfl⟩, hT⟩
              | 16, _ => exact stepV rfl (wantedOf rfl (yieldedAt rfl rfl (show a.eval (.tmp 39) = .bool false from (hdep _ rfl 8 rfl _ rfl _ rfl)))) (execLd3 rfl (hdep _ rfl 15 rfl _ rfl _ rfl) ((cll c hcJ X hT.1).trans (by rw [el0]))) ⟨⟨_, rfl, rfl⟩, hT⟩
              | 17, _ => exact stepV rfl (wantedOf rfl (yieldedAt rfl rfl (show a.eval (.tmp 39) = .bool false from (hdep _ rfl 8 rfl _ rfl _ rfl)))) (execDec (execGe8 (p := q_) (q := lq) rfl (hdep _ rfl 12 rfl _ rfl _ rfl) (hdep _ rfl 16 rfl _ rfl _ rfl)) (decide_eq_false (by omega))) ⟨⟨_, rfl, rfl⟩, hT⟩
              | 18, _ => exact stepV rfl rfl (execPickF rfl (hdep _ rfl 8 rfl _ rfl _ rfl) (hdep _ rfl 17 rfl _ rfl _ rfl)) ⟨⟨_, rfl, rfl⟩, hT⟩
              | k_ + 19, h_ => exact absurd h_ (by simp)
            intro l_ a X11 h1 h2 h3 h4 hall hT
            clear hall
            clear BB
            clear FX
            clear FU
            obtain ⟨BB, FX, FU⟩ := hT
            replace t0 := (h3 0 (by decide)).trans t0
            replace t1 := (h3 1 (by decide)).trans t1
            replace t6 := (h3 6 (by decide)).trans t6
            replace t8 := (h3 8 (by decide)).trans t8
            replace t9 := (h3 9 (by decide)).trans t9
            replace t10 := (h3 10 (by decide)).trans t10
            have t49 : a.eval (.tmp 49) = .bool false := h4 (18, 49) (by decide)
            replace A := (⟨h1, h2.trans A.2⟩ : a.tmps.size = 81 ∧ a.defers = [])
            clear h1 h2 h3 h4
            refine wp_cond_false t49 ?_
            refine wp_skip ?_
            clear t49
            have hi20 : i ≤ 1048576 := rw_len hG hin hcl
            refine wp_seq ?_
            refine wp_region_sq (σ := Nat × Value) 81 [(0, 50), (1, 51), (2, 52), (3, 53), (4, 54), (5, 55), (6, 56), (7, 57), (8, 58), (9, 8)] (fun j_ s X => match j_ with | 0 => Below V.heap.size V X ∧ (X.ownsRow V.heap.size 3 1 y (J) (intsL (J) (fun j => (cntC (gN cf) j i : Int)))) ∧ (X.ownsRow V.heap.size 58 2 u i (intsL (i * 2) (rwH cf))) | 1 => Below V.heap.size V X ∧ (X.ownsRow V.heap.size 3 1 y (J) (intsL (J) (fun j => (cntC (gN cf) j i : Int)))) ∧ (X.ownsRow V.heap.size 58 2 u i (intsL (i * 2) (rwH cf))) | 2 => Below V.heap.size V X ∧ (X.ownsRow V.heap.size 3 1 y (J) (intsL (J) (fun j => (cntC (gN cf) j i : Int)))) ∧ (X.ownsRow V.heap.size 58 2 u i (intsL (i * 2) (rwH cf))) | 3 => Below V.heap.size V X ∧ (X.ownsRow V.heap.size 3 1 y (J) (intsL (J) (fun j => (cntC (gN cf) j i : Int)))) ∧ (X.ownsRow V.heap.size 58 2 u i (intsL (i * 2) (rwH cf))) | 4 => Below V.heap.size V X ∧ (X.ownsRow V.heap.size 3 1 y (J) (intsL (J) (fun j => (cntC (gN cf) j i : Int)))) ∧ (X.ownsRow V.heap.size 58 2 u i (intsL (i * 2) (rwH cf))) | 5 => Below V.heap.size V X ∧ (X.ownsRow V.heap.size 3 1 y (J) (intsL (J) (fun j => (cntC (gN cf) j i : Int)))) ∧ (X.ownsRow V.heap.size 58 2 u i (intsL (i * 2) (rwH cf))) | 6 => Below V.heap.size V X ∧ (X.ownsRow V.heap.size 3 1 y (J) (intsL (J) (fun j => (cntC (gN cf) j i : Int)))) ∧ (X.ownsRow V.heap.size 58 2 u i (intsL (i * 2) (rwH cf))) | 7 => Below V.heap.size V X ∧ (X.ownsRow V.heap.size 3 1 y (J) (intsL (J) (fun j => (cntC (gN cf) j i : Int)))) ∧ (X.ownsRow V.heap.size 58 2 u i (intsL (i * 2) (rwH cf))) | 8 => Below V.heap.size V X ∧ (X.ownsRow V.heap.size 3 1 y (J) (intsL (J) (fun j => (cntC (gN cf) j i : Int)))) ∧ (X.ownsRow V.heap.size 58 2 u i (intsL (i * 2) (rwH cf))) ∧ (X.heap[s.1]? = some (.cells (thC ((c : Nat) : Int) ((q_ : Nat) : Int)) 58)) | 9 => Below V.heap.size V X ∧ (X.ownsRow V.heap.size 3 1 y (J) (intsL (J) (fun j => (cntC (gN cf) j i : Int)))) ∧ (X.ownsRow V.heap.size 58 2 s.2 (i + 1) (intsL ((i + 1) * 2) (rwH cf))) | _ => Below V.heap.size V X ∧ (X.ownsRow V.heap.size 3 1 y (J) (intsL (J) (fun j => (cntC (gN cf) j i : Int)))) ∧ (X.ownsRow V.heap.size 58 2 s.2 (i + 1) (intsL ((i + 1) * 2) (rwH cf)))) (fun s => fun i_ => match i_ with | 0 => u | 1 => .int .i64 ((c : Nat) : Int) | 2 => y | 3 => .int .i64 ((c : Nat) : Int) | 4 => .pointer (some ⟨gy, 0 + c, none⟩) | 5 => .int .i64 ((q_ : Nat) : Int) | 6 => .agg (thC ((c : Nat) : Int) ((q_ : Nat) : Int)) | 7 => .slice (some ⟨s.1, 0, none⟩) 1 1 | 8 => s.2 | 9 => s.2 | _ => undef) (0, undef) A.1 (by kernel_rfl) (by decide) (by decide) ⟨BB, FX, FU⟩ ?_ ?_
            · intro i_ hi_ s a X hf hv hn hS
              match i_, hi_ with
              | 0, _ => exact stepV rfl rfl (execMvB rfl ((hn 9 (by decide) _ rfl _ rfl).trans t8)) ⟨s, ⟨_, rfl, rfl⟩, hS, fun _ _ => rfl⟩
              | 1, _ => exact stepV rfl rfl (execMvB rfl ((hf 10 (by decide)).trans t10)) ⟨s, ⟨_, rfl, rfl⟩, hS, fun _ _ => rfl⟩
              | 2, _ => exact stepV rfl rfl (execMvB rfl ((hf 6 (by decide)).trans t6)) ⟨s, ⟨_, rfl, rfl⟩, hS, fun _ _ => rfl⟩
              | 3, _ => exact stepV rfl rfl (execMvB rfl ((hf 10 (by decide)).trans t10)) ⟨s, ⟨_, rfl, rfl⟩, hS, fun _ _ => rfl⟩
              | 4, _ => exact stepV rfl rfl (execIdxN (k := c) rfl ((hv 2 (by decide) _ rfl _ rfl).trans ey) (hv 3 (by decide) _ rfl _ rfl) hcJ) ⟨s, ⟨_, rfl, rfl⟩, hS, fun _ _ => rfl⟩
              | 5, _ => exact stepV rfl rfl (execLd3 rfl (hv 4 (by decide) _ rfl _ rfl) ((own_cellI (by have h_ := hS.2.1; rw [ey] at h_; exact h_) hcJ).1.trans (by rw [eq]))) ⟨s, ⟨_, rfl, rfl⟩, hS, fun _ _ => rfl⟩
              | 6, _ => exact stepV rfl rfl (execBdPr (p := ((c : Nat) : Int)) (q := ((q_ : Nat) : Int)) rfl (hv 1 (by decide) _ rfl _ rfl) (hv 5 (by decide) _ rfl _ rfl)) ⟨s, ⟨_, rfl, rfl⟩, hS, fun _ _ => rfl⟩
              | 7, _ =>
                refine stepV rfl rfl (execBs1Pr rfl (hv 6 (by decide) _ rfl _ rfl)) ⟨(X.heap.size, s.2), ⟨_, rfl, rfl⟩, ⟨(hS.1).trans (((belNew X _)).mono (hS.1).size), (ownD_below hS.2.1 (belNew X _)), (ownD_below hS.2.2 (belNew X _)), heapNew X _⟩, fun i hi => ?_⟩
                match i, hi with
                | 0, _ => rfl
                | 1, _ => rfl
                | 2, _ => rfl
                | 3, _ => rfl
                | 4, _ => rfl
                | 5, _ => rfl
                | 6, _ => rfl
                | n_ + 7, h_ => omega
              | 8, _ =>
                refine stepAppPr (h := rwH cf) rfl rfl rfl (hv 0 (by decide) _ rfl _ rfl) (hv 7 (by decide) _ rfl _ rfl) hS.2.2.1 (by rw [rwH_0, rwH_1, ec, eq]; exact hS.2.2.2) (by omega) (hS.1).size fun v' W' own' gr => ⟨(s.1, v'), ⟨_, rfl, rfl⟩, ⟨(hS.1).grown gr (hS.1).size (fun k hk => (hS.2.2.1.lt k hk).1), (own_overT hS.2.1 hS.2.2.1 gr (by decide)), own'⟩, fun i hi => ?_⟩
                match i, hi with
                | 0, _ => rfl
                | 1, _ => rfl
                | 2, _ => rfl
                | 3, _ => rfl
                | 4, _ => rfl
                | 5, _ => rfl
                | 6, _ => rfl
                | 7, _ => rfl
                | n_ + 8, h_ => omega
              | 9, _ => exact stepV rfl rfl (execAsgB rfl (hv 8 (by decide) _ rfl _ rfl)) ⟨s, ⟨_, rfl, rfl⟩, hS, fun _ _ => rfl⟩
              | k_ + 10, h_ => exact absurd h_ (by simp)
            rintro ⟨g57, v58⟩ a X13 h1 h2 h3 h4 hS
            clear BB
            clear FX
            clear FU
            replace hS : Below V.heap.size V X13 ∧ (X13.ownsRow V.heap.size 3 1 y (J) (intsL (J) (fun j => (cntC (gN cf) j i : Int)))) ∧ (X13.ownsRow V.heap.size 58 2 v58 (i + 1) (intsL ((i + 1) * 2) (rwH cf))) := hS
            obtain ⟨BB, FX, FU2⟩ := hS
            replace t0 := (h3 0 (by decide)).trans t0
            replace t1 := (h3 1 (by decide)).trans t1
            replace t6 := (h3 6 (by decide)).trans t6
            replace t8 : a.eval (.tmp 8) = v58 := h4 9 _ rfl _ rfl
            replace t9 := (h3 9 (by decide)).trans t9
            replace t10 := (h3 10 (by decide)).trans t10
            replace A := (⟨h1, h2.trans A.2⟩ : a.tmps.size = 81 ∧ a.defers = [])
            clear h1 h2 h3 h4
            refine wp_region_sq (σ := Unit) 81 [(0, 59), (1, 60), (2, 61), (3, 62), (4, 63), (5, 64)] (fun j_ s X => match j_ with | 0 => Below V.heap.size V X ∧ (X.ownsRow V.heap.size 3 1 y (J) (intsL (J) (fun j => (cntC (gN cf) j i : Int)))) ∧ (X.ownsRow V.heap.size 58 2 v58 (i + 1) (intsL ((i + 1) * 2) (rwH cf))) | 1 => Below V.heap.size V X ∧ (X.ownsRow V.heap.size 3 1 y (J) (intsL (J) (fun j => (cntC (gN cf) j i : Int)))) ∧ (X.ownsRow V.heap.size 58 2 v58 (i + 1) (intsL ((i + 1) * 2) (rwH cf))) | 2 => Below V.heap.size V X ∧ (X.ownsRow V.heap.size 3 1 y (J) (intsL (J) (fun j => (cntC (gN cf) j i : Int)))) ∧ (X.ownsRow V.heap.size 58 2 v58 (i + 1) (intsL ((i + 1) * 2) (rwH cf))) | 3 => Below V.heap.size V X ∧ (X.ownsRow V.heap.size 3 1 y (J) (intsL (J) (fun j => (cntC (gN cf) j i : Int)))) ∧ (X.ownsRow V.heap.size 58 2 v58 (i + 1) (intsL ((i + 1) * 2) (rwH cf))) | 4 => Below V.heap.size V X ∧ (X.ownsRow V.heap.size 3 1 y (J) (intsL (J) (fun j => (cntC (gN cf) j i : Int)))) ∧ (X.ownsRow V.heap.size 58 2 v58 (i + 1) (intsL ((i + 1) * 2) (rwH cf))) | 5 => Below V.heap.size V X ∧ (X.ownsRow V.heap.size 3 1 y (J) (intsL (J) (fun j => (cntC (gN cf) j i : Int)))) ∧ (X.ownsRow V.heap.size 58 2 v58 (i + 1) (intsL ((i + 1) * 2) (rwH cf))) | 6 => Below V.heap.size V X ∧ (X.ownsRow V.heap.size 3 1 y (J) (intsL (J) (fun j => (cntC (gN cf) j i : Int)))) ∧ (X.ownsRow V.heap.size 58 2 v58 (i + 1) (intsL ((i + 1) * 2) (rwH cf))) | _ => Below V.heap.size V X ∧ (X.ownsRow V.heap.size 58 2 v58 (i + 1) (intsL ((i + 1) * 2) (rwH cf))) ∧ (X.ownsRow V.heap.size 3 1 y (J) (intsL (J) (fun j => (cntC (gN cf) j (i + 1) : Int))))) (fun s => fun i_ => match i_ with | 0 => y | 1 => .int .i64 ((c : Nat) : Int) | 2 => .pointer (some ⟨gy, 0 + c, none⟩) | 3 => .int .i64 ((q_ : Nat) : Int) | 4 => .int .i64 ((q_ + 1 : Nat) : Int) | 5 => .pointer (some ⟨gy, 0 + c, none⟩) | 6 => undef | _ => undef) () A.1 (by kernel_rfl) (by decide) (by decide) ⟨BB, FX, FU2⟩ ?_ ?_
            · intro i_ hi_ s a X hf hv hn hS
              match i_, hi_ with
              | 0, _ => exact stepV rfl rfl (execMvB rfl ((hf 6 (by decide)).trans t6)) ⟨s, ⟨_, rfl, rfl⟩, hS, fun _ _ => rfl⟩
              | 1, _ => exact stepV rfl rfl (execMvB rfl ((hf 10 (by decide)).trans t10)) ⟨s, ⟨_, rfl, rfl⟩, hS, fun _ _ => rfl⟩
              | 2, _ => exact stepV rfl rfl (execIdxN (k := c) rfl ((hv 0 (by decide) _ rfl _ rfl).trans ey) (hv 1 (by decide) _ rfl _ rfl) hcJ) ⟨s, ⟨_, rfl, rfl⟩, hS, fun _ _ => rfl⟩
              | 3, _ => exact stepV rfl rfl (execLd3 rfl (hv 2 (by decide) _ rfl _ rfl) ((own_cellI (by have h_ := hS.2.1; rw [ey] at h_; exact h_) hcJ).1.trans (by rw [eq]))) ⟨s, ⟨_, rfl, rfl⟩, hS, fun _ _ => rfl⟩
              | 4, _ => exact stepV rfl rfl (execAd8 (p := q_) (q := 1) rfl (hv 3 (by decide) _ rfl _ rfl) rfl (by omega)) ⟨s, ⟨_, rfl, rfl⟩, hS, fun _ _ => rfl⟩
              | 5, _ => exact stepV rfl rfl (execIdxN (k := c) rfl ((hv 0 (by decide) _ rfl _ rfl).trans ey) (hv 1 (by decide) _ rfl _ rfl) hcJ) ⟨s, ⟨_, rfl, rfl⟩, hS, fun _ _ => rfl⟩
              | 6, _ =>
                obtain ⟨hc_, hf_⟩ := own_cellI (by have h_ := hS.2.1; rw [ey] at h_; exact h_) hcJ
                refine stepS rfl rfl (execStI9 rfl (hv 5 (by decide) _ rfl _ rfl) (hv 4 (by decide) _ rfl _ rfl) hc_ hf_) ⟨s, ⟨_, rfl, rfl⟩, ⟨(hS.1).setCell hBy _, (own_offT hS.2.2 (own_cur (by have h_ := hS.2.1; rw [ey] at h_; exact h_)).choose_spec.1 (by decide)), (by have h_ := hS.2.1; rw [ey] at h_ ⊢; exact nx_set h_ ec eq)⟩, fun i hi => ?_⟩
                match i, hi with
                | 0, _ => rfl
                | 1, _ => rfl
                | 2, _ => rfl
                | 3, _ => rfl
                | 4, _ => rfl
                | 5, _ => rfl
                | n_ + 6, h_ => omega
              | k_ + 7, h_ => exact absurd h_ (by simp)
            rintro _ a X14 h1 h2 h3 h4 hS
            clear BB
            clear FX
            clear FU2
            replace hS : Below V.heap.size V X14 ∧ (X14.ownsRow V.heap.size 58 2 v58 (i + 1) (intsL ((i + 1) * 2) (rwH cf))) ∧ (X14.ownsRow V.heap.size 3 1 y (J) (intsL (J) (fun j => (cntC (gN cf) j (i + 1) : Int)))) := hS
            obtain ⟨BB, FU2, FX2⟩ := hS
            replace t0 := (h3 0 (by decide)).trans t0
            replace t1 := (h3 1 (by decide)).trans t1
            replace t6 := (h3 6 (by decide)).trans t6
            replace t8 := (h3 8 (by decide)).trans t8
            replace t9 := (h3 9 (by decide)).trans t9
            replace A := (⟨h1, h2.trans A.2⟩ : a.tmps.size = 81 ∧ a.defers = [])
            clear h1 h2 h3 h4
            clear t10
            refine wp_region_sq (σ := Unit) 81 [(0, 25), (1, 26), (2, 9)] (fun j_ s X => match j_ with | 0 => Below V.heap.size V X ∧ (X.ownsRow V.heap.size 58 2 v58 (i + 1) (intsL ((i + 1) * 2) (rwH cf))) ∧ (X.ownsRow V.heap.size 3 1 y (J) (intsL (J) (fun j => (cntC (gN cf) j (i + 1) : Int)))) | 1 => Below V.heap.size V X ∧ (X.ownsRow V.heap.size 58 2 v58 (i + 1) (intsL ((i + 1) * 2) (rwH cf))) ∧ (X.ownsRow V.heap.size 3 1 y (J) (intsL (J) (fun j => (cntC (gN cf) j (i + 1) : Int)))) | 2 => Below V.heap.size V X ∧ (X.ownsRow V.heap.size 58 2 v58 (i + 1) (intsL ((i + 1) * 2) (rwH cf))) ∧ (X.ownsRow V.heap.size 3 1 y (J) (intsL (J) (fun j => (cntC (gN cf) j (i + 1) : Int)))) | _ => Below V.heap.size V X ∧ (X.ownsRow V.heap.size 58 2 v58 (i + 1) (intsL ((i + 1) * 2) (rwH cf))) ∧ (X.ownsRow V.heap.size 3 1 y (J) (intsL (J) (fun j => (cntC (gN cf) j (i + 1) : Int))))) (fun s => fun i_ => match i_ with | 0 => .int .i64 ((i : Nat) : Int) | 1 => .int .i64 ((i + 1 : Nat) : Int) | 2 => .int .i64 ((i + 1 : Nat) : Int) | _ => undef) () A.1 (by kernel_rfl) (by decide) (by decide) ⟨BB, FU2, FX2⟩ ?_ ?_
            · intro i_ hi_ s a X hf hv hn hS
              match i_, hi_ with
              | 0, _ => exact stepV rfl rfl (execMvB rfl ((hn 2 (by decide) _ rfl _ rfl).trans t9)) ⟨s, ⟨_, rfl, rfl⟩, hS, fun _ _ => rfl⟩
              | 1, _ => exact stepV rfl rfl (execAd8 (p := i) (q := 1) rfl (hv 0 (by decide) _ rfl _ rfl) rfl (by omega)) ⟨s, ⟨_, rfl, rfl⟩, hS, fun _ _ => rfl⟩
              | 2, _ => exact stepV rfl rfl (execAsgB rfl (hv 1 (by decide) _ rfl _ rfl)) ⟨s, ⟨_, rfl, rfl⟩, hS, fun _ _ => rfl⟩
              | k_ + 3, h_ => exact absurd h_ (by simp)
            rintro _ a X9 h1 h2 h3 h4 hS
            clear BB
            clear FU2
            clear FX2
            replace hS : Below V.heap.size V X9 ∧ (X9.ownsRow V.heap.size 58 2 v58 (i + 1) (intsL ((i + 1) * 2) (rwH cf))) ∧ (X9.ownsRow V.heap.size 3 1 y (J) (intsL (J) (fun j => (cntC (gN cf) j (i + 1) : Int)))) := hS
            obtain ⟨BB, FU2, FX2⟩ := hS
            replace t0 := (h3 0 (by decide)).trans t0
            replace t1 := (h3 1 (by decide)).trans t1
            replace t6 := (h3 6 (by decide)).trans t6
            replace t8 := (h3 8 (by decide)).trans t8
            replace t9 : a.eval (.tmp 9) = .int .i64 ((i + 1 : Nat) : Int) := h4 2 _ rfl _ rfl
            replace A := (⟨h1, h2.trans A.2⟩ : a.tmps.size = 81 ∧ a.defers = [])
            clear h1 h2 h3 h4
            exact ⟨⟨i + 1, _, lti, fun j hj => (if q : j = i then by subst q; omega else hin j (by omega)), rw_cl hcl h3o, A, t0, t1, t6, t8, t9, BB, FX2, FU2⟩, by show n - (intOf (a.eval (.tmp 9))).toNat < n - (intOf (Act.eval _ (.tmp 9))).toNat; rw [t9, esi]; show n - (i + 1) < n - i; omega⟩
    · rw [decide_eq_false lti] at t24
      refine wp_cond_false t24 ?_
      refine wp_exit ?_
      first | with_reducible refine exit_in ?_ | with_reducible refine exit_then (exit_in ?_) | with_reducible refine exit_then (exit_then (exit_in ?_)) | refine exit_in ?_ | refine exit_then (exit_in ?_) | refine exit_then (exit_then (exit_in ?_))
      clear t24 esi
      have him : i = n := by omega
      rw [him] at hin FX FU hcl
      clear t0 t9
      refine wp_seq ?_
      refine wp_seq ?_
      refine wp_region_sq (σ := Unit) 81 [(0, 11)] (fun j_ s X => match j_ with | 0 => Below V.heap.size V X ∧ (X.ownsRow V.heap.size 3 1 y (J) (intsL (J) (fun j => (cntC (gN cf) j n : Int)))) ∧ (X.ownsRow V.heap.size 58 2 u n (intsL (n * 2) (rwH cf))) | _ => Below V.heap.size V X ∧ (X.ownsRow V.heap.size 3 1 y (J) (intsL (J) (fun j => (cntC (gN cf) j n : Int)))) ∧ (X.ownsRow V.heap.size 58 2 u n (intsL (n * 2) (rwH cf)))) (fun s => fun i_ => match i_ with | 0 => .int .i64 ((0 : Nat) : Int) | _ => undef) () A.1 (by kernel_rfl) (by decide) (by decide) ⟨BB, FX, FU⟩ ?_ ?_
      · intro i_ hi_ s a X hf hv hn hS
        match i_, hi_ with
        | 0, _ => exact stepV rfl rfl (execAsgB rfl rfl) ⟨s, ⟨_, rfl, rfl⟩, hS, fun _ _ => rfl⟩
        | k_ + 1, h_ => exact absurd h_ (by simp)
      rintro _ a X15 h1 h2 h3 h4 hS
      clear BB
      clear FX
      clear FU
      replace hS : Below V.heap.size V X15 ∧ (X15.ownsRow V.heap.size 3 1 y (J) (intsL (J) (fun j => (cntC (gN cf) j n : Int)))) ∧ (X15.ownsRow V.heap.size 58 2 u n (intsL (n * 2) (rwH cf))) := hS
      obtain ⟨BB, FX, FU⟩ := hS
      replace t1 := (h3 1 (by decide)).trans t1
      replace t6 := (h3 6 (by decide)).trans t6
      replace t8 := (h3 8 (by decide)).trans t8
      have t11 : a.eval (.tmp 11) = .int .i64 ((0 : Nat) : Int) := h4 0 _ rfl _ rfl
      replace A := (⟨h1, h2.trans A.2⟩ : a.tmps.size = 81 ∧ a.defers = [])
      clear h1 h2 h3 h4
      refine wp_block ?_
      refine wp_loop (fun a W => ∃ (j : Nat), j ≤ J ∧ (∀ k, k < j → lf k = (cntC (gN cf) k n : Int)) ∧ (a.tmps.size = 81 ∧ a.defers = []) ∧ a.eval (.tmp 1) = v ∧ a.eval (.tmp 6) = y ∧ a.eval (.tmp 8) = u ∧ a.eval (.tmp 11) = .int .i64 ((j : Nat) : Int) ∧ Below V.heap.size V W ∧ (W.ownsRow V.heap.size 3 1 y (J) (intsL (J) (fun j => (cntC (gN cf) j n : Int)))) ∧ (W.ownsRow V.heap.size 58 2 u n (intsL (n * 2) (rwH cf)))) (fun a _ => J - (intOf (a.eval (.tmp 11))).toNat) ⟨0, Nat.zero_le _, fun k hk => absurd hk (Nat.not_lt_zero _), A, t1, t6, t8, t11, BB, FX, FU⟩ ?_
      clear A t1 t6 t8 t11 BB FX FU a
      rintro a XL16 ⟨j, hj, hct, A, t1, t6, t8, t11, BB, FX, FU⟩
      have esj := t11
      refine wp_seq ?_
      refine wp_seq ?_
      refine wp_region_sq (σ := Unit) 81 [(0, 65), (1, 66), (2, 67), (3, 68)] (fun j_ s X => match j_ with | 0 => Below V.heap.size V X ∧ (X.ownsRow V.heap.size 3 1 y (J) (intsL (J) (fun j => (cntC (gN cf) j n : Int)))) ∧ (X.ownsRow V.heap.size 58 2 u n (intsL (n * 2) (rwH cf))) | 1 => Below V.heap.size V X ∧ (X.ownsRow V.heap.size 3 1 y (J) (intsL (J) (fun j => (cntC (gN cf) j n : Int)))) ∧ (X.ownsRow V.heap.size 58 2 u n (intsL (n * 2) (rwH cf))) | 2 => Below V.heap.size V X ∧ (X.ownsRow V.heap.size 3 1 y (J) (intsL (J) (fun j => (cntC (gN cf) j n : Int)))) ∧ (X.ownsRow V.heap.size 58 2 u n (intsL (n * 2) (rwH cf))) | 3 => Below V.heap.size V X ∧ (X.ownsRow V.heap.size 3 1 y (J) (intsL (J) (fun j => (cntC (gN cf) j n : Int)))) ∧ (X.ownsRow V.heap.size 58 2 u n (intsL (n * 2) (rwH cf))) | _ => Below V.heap.size V X ∧ (X.ownsRow V.heap.size 3 1 y (J) (intsL (J) (fun j => (cntC (gN cf) j n : Int)))) ∧ (X.ownsRow V.heap.size 58 2 u n (intsL (n * 2) (rwH cf)))) (fun s => fun i_ => match i_ with | 0 => .int .i64 ((j : Nat) : Int) | 1 => v | 2 => .int .i64 ((J : Nat) : Int) | 3 => .bool (decide (j < J)) | _ => undef) () A.1 (by kernel_rfl) (by decide) (by decide) ⟨BB, FX, FU⟩ ?_ ?_
      · intro i_ hi_ s a X hf hv hn hS
        match i_, hi_ with
        | 0, _ => exact stepV rfl rfl (execMvB rfl ((hf 11 (by decide)).trans t11)) ⟨s, ⟨_, rfl, rfl⟩, hS, fun _ _ => rfl⟩
        | 1, _ => exact stepV rfl rfl (execMvB rfl ((hf 1 (by decide)).trans t1)) ⟨s, ⟨_, rfl, rfl⟩, hS, fun _ _ => rfl⟩
        | 2, _ => exact stepV rfl rfl (execLenI (len := J) rfl (hv 1 (by decide) _ rfl _ rfl) ((FI.on hS.1)).shp) ⟨s, ⟨_, rfl, rfl⟩, hS, fun _ _ => rfl⟩
        | 3, _ => exact stepV rfl rfl (execLtW (p := j) (q := J) rfl (hv 0 (by decide) _ rfl _ rfl) (hv 2 (by decide) _ rfl _ rfl)) ⟨s, ⟨_, rfl, rfl⟩, hS, fun _ _ => rfl⟩
        | k_ + 4, h_ => exact absurd h_ (by simp)
      rintro _ a X16 h1 h2 h3 h4 hS
      clear BB
      clear FX
      clear FU
      replace hS : Below V.heap.size V X16 ∧ (X16.ownsRow V.heap.size 3 1 y (J) (intsL (J) (fun j => (cntC (gN cf) j n : Int)))) ∧ (X16.ownsRow V.heap.size 58 2 u n (intsL (n * 2) (rwH cf))) := hS
      obtain ⟨BB, FX, FU⟩ := hS
      replace t1 := (h3 1 (by decide)).trans t1
      replace t6 := (h3 6 (by decide)).trans t6
      replace t8 := (h3 8 (by decide)).trans t8
      replace t11 := (h3 11 (by decide)).trans t11
      have t68 : a.eval (.tmp 68) = .bool (decide (j < J)) := h4 3 _ rfl _ rfl
      replace A := (⟨h1, h2.trans A.2⟩ : a.tmps.size = 81 ∧ a.defers = [])
      clear h1 h2 h3 h4
      by_cases ltj : j < J
      · rw [decide_eq_true ltj] at t68
        refine wp_cond_true t68 ?_
        refine wp_skip ?_
        clear t68
        refine wp_seq ?_
        refine wp_block ?_
        obtain ⟨llb, llo, llc, ell, hllb, hllc⟩ := open_sl FI (by omega)
        have cll : ∀ k, k < J → ∀ X, Below V.heap.size V X → X.cell? ⟨llb, llo + k, none⟩ = some (.int .i64 ((lf) k)) := fun k hk X hX => by rw [cell_below hX hllb]; exact hllc k hk
        obtain ⟨gy, cy, ey, hBy, _⟩ := ownL_some9 FX (by omega)
        obtain ⟨q_, eq⟩ : ∃ q_, cntC (gN cf) j n = q_ := ⟨_, rfl⟩
        obtain ⟨lq, el⟩ : ∃ lq, gN lf j = lq := ⟨_, rfl⟩
        have el0 : lf j = (lq : Int) := by rw [← el]; have := hG.1 j ltj; show lf j = (((lf j).toNat : Nat) : Int); omega
        refine wp_seq ?_
        by_cases hql : q_ = lq
        · refine wp_region_detA 81 [(0, 71), (1, 72), (2, 73), (3, 74), (4, 75), (5, 76), (6, 77), (7, 78), (8, 79)] (fun i_ => match i_ with | 0 => y | 1 => .int .i64 ((j : Nat) : Int) | 2 => .pointer (some ⟨gy, 0 + j, none⟩) | 3 => .int .i64 ((q_ : Nat) : Int) | 4 => v | 5 => .int .i64 ((j : Nat) : Int) | 6 => .pointer (some ⟨llb, llo + j, none⟩) | 7 => .int .i64 ((lq : Nat) : Int) | 8 => .bool false | _ => undef) (fun _ X => Below V.heap.size V X ∧ (X.ownsRow V.heap.size 3 1 y (J) (intsL (J) (fun j => (cntC (gN cf) j n : Int)))) ∧ (X.ownsRow V.heap.size 58 2 u n (intsL (n * 2) (rwH cf)))) (by kernel_rfl) (by kernel_rfl) A.1 (by kernel_rfl) (by decide) (by decide) ⟨BB.drew, (ownD_below FX (Below.refl _ _).drew), (ownD_below FU (Below.refl _ _).drew)⟩ ?_ ?_
          · intro i_ hi_ l_ a X hl_ hf hdep hl2 hcl hno hT
            match i_, hi_ with
            | 0, _ => exact stepV rfl rfl (execMvB rfl ((hf 6 (by decide)).trans t6)) ⟨⟨_, rfl, rfl⟩, hT⟩
            | 1, _ => exact stepV rfl rfl (execMvB rfl ((hf 11 (by decide)).trans t11)) ⟨⟨_, rfl, rfl⟩, hT⟩
            | 2, _ => exact stepV rfl rfl (execIdxN (k := j) rfl ((hdep _ rfl 0 rfl _ rfl _ rfl).trans ey) (hdep _ rfl 1 rfl _ rfl _ rfl) ltj) ⟨⟨_, rfl, rfl⟩, hT⟩
            | 3, _ => exact stepV rfl rfl (execLd3 rfl (hdep _ rfl 2 rfl _ rfl _ rfl) ((own_cellI (by have h_ := hT.2.1; rw [ey] at h_; exact h_) ltj).1.trans (by rw [eq]))) ⟨⟨_, rfl, rfl⟩, hT⟩
            | 4, _ => exact stepV rfl rfl (execMvB rfl ((hf 1 (by decide)).trans t1)) ⟨⟨_, rfl, rfl⟩, hT⟩
            | 5, _ => exact stepV rfl rfl (execMvB rfl ((hf 11 (by decide)).trans t11)) ⟨⟨_, rfl, rfl⟩, hT⟩
            | 6, _ => exact stepV rfl rfl (execIdxN (k := j) rfl ((hdep _ rfl 4 rfl _ rfl _ rfl).trans ell) (hdep _ rfl 5 rfl _ rfl _ rfl) ltj) ⟨⟨_, rfl, rfl⟩, hT⟩
            | 7, _ => exact stepV rfl rfl (execLd3 rfl (hdep _ rfl 6 rfl _ rfl _ rfl) ((cll j ltj X hT.1).trans (by rw [el0]))) ⟨⟨_, rfl, rfl⟩, hT⟩
            | 8, _ => exact stepV rfl rfl (execDec (execNeN (p := q_) (q := lq) rfl (hdep _ rfl 3 rfl _ rfl _ rfl) (hdep _ rfl 7 rfl _ rfl _ rfl)) (decide_eq_false (by omega))) ⟨⟨_, rfl, rfl⟩, hT⟩
            | k_ + 9, h_ => exact absurd h_ (by simp)
          intro l_ a X18 h1 h2 h3 h4 hall hT
          clear hall
          clear BB
          clear FX
          clear FU
          obtain ⟨BB, FX, FU⟩ := hT
          replace t1 := (h3 1 (by decide)).trans t1
          replace t6 := (h3 6 (by decide)).trans t6
          replace t8 := (h3 8 (by decide)).trans t8
          replace t11 := (h3 11 (by decide)).trans t11
          have t79 : a.eval (.tmp 79) = .bool false := h4 (8, 79) (by decide)
          replace A := (⟨h1, h2.trans A.2⟩ : a.tmps.size = 81 ∧ a.defers = [])
          clear h1 h2 h3 h4
          refine wp_cond_false t79 ?_
          refine wp_skip ?_
          clear t79
          refine wp_region_sq (σ := Unit) 81 [(0, 69), (1, 70), (2, 11)] (fun j_ s X => match j_ with | 0 => Below V.heap.size V X ∧ (X.ownsRow V.heap.size 3 1 y (J) (intsL (J) (fun j => (cntC (gN cf) j n : Int)))) ∧ (X.ownsRow V.heap.size 58 2 u n (intsL (n * 2) (rwH cf))) | 1 => Below V.heap.size V X ∧ (X.ownsRow V.heap.size 3 1 y (J) (intsL (J) (fun j => (cntC (gN cf) j n : Int)))) ∧ (X.ownsRow V.heap.size 58 2 u n (intsL (n * 2) (rwH cf))) | 2 => Below V.heap.size V X ∧ (X.ownsRow V.heap.size 3 1 y (J) (intsL (J) (fun j => (cntC (gN cf) j n : Int)))) ∧ (X.ownsRow V.heap.size 58 2 u n (intsL (n * 2) (rwH cf))) | _ => Below V.heap.size V X ∧ (X.ownsRow V.heap.size 3 1 y (J) (intsL (J) (fun j => (cntC (gN cf) j n : Int)))) ∧ (X.ownsRow V.heap.size 58 2 u n (intsL (n * 2) (rwH cf)))) (fun s => fun i_ => match i_ with | 0 => .int .i64 ((j : Nat) : Int) | 1 => .int .i64 ((j + 1 : Nat) : Int) | 2 => .int .i64 ((j + 1 : Nat) : Int) | _ => undef) () A.1 (by kernel_rfl) (by decide) (by decide) ⟨BB, FX, FU⟩ ?_ ?_
          · intro i_ hi_ s a X hf hv hn hS
            match i_, hi_ with
            | 0, _ => exact stepV rfl rfl (execMvB rfl ((hn 2 (by decide) _ rfl _ rfl).trans t11)) ⟨s, ⟨_, rfl, rfl⟩, hS, fun _ _ => rfl⟩
            | 1, _ => exact stepV rfl rfl (execAd8 (p := j) (q := 1) rfl (hv 0 (by decide) _ rfl _ rfl) rfl (by omega)) ⟨s, ⟨_, rfl, rfl⟩, hS, fun _ _ => rfl⟩
            | 2, _ => exact stepV rfl rfl (execAsgB rfl (hv 1 (by decide) _ rfl _ rfl)) ⟨s, ⟨_, rfl, rfl⟩, hS, fun _ _ => rfl⟩
            | k_ + 3, h_ => exact absurd h_ (by simp)
          rintro _ a X17 h1 h2 h3 h4 hS
          clear BB
          clear FX
          clear FU
          replace hS : Below V.heap.size V X17 ∧ (X17.ownsRow V.heap.size 3 1 y (J) (intsL (J) (fun j => (cntC (gN cf) j n : Int)))) ∧ (X17.ownsRow V.heap.size 58 2 u n (intsL (n * 2) (rwH cf))) := hS
          obtain ⟨BB, FX, FU⟩ := hS
          replace t1 := (h3 1 (by decide)).trans t1
          replace t6 := (h3 6 (by decide)).trans t6
          replace t8 := (h3 8 (by decide)).trans t8
          replace t11 : a.eval (.tmp 11) = .int .i64 ((j + 1 : Nat) : Int) := h4 2 _ rfl _ rfl
          replace A := (⟨h1, h2.trans A.2⟩ : a.tmps.size = 81 ∧ a.defers = [])
          clear h1 h2 h3 h4
          exact ⟨⟨j + 1, ltj, fun k hk => (if q : k = j then by subst q; rw [eq, el0, hql] else hct k (by omega)), A, t1, t6, t8, t11, BB, FX, FU⟩, by show J - (intOf (a.eval (.tmp 11))).toNat < J - (intOf (Act.eval _ (.tmp 11))).toNat; rw [t11, esj]; show J - (j + 1) < J - j; omega⟩
        · refine wp_region_detA 81 [(0, 71), (1, 72), (2, 73), (3, 74), (4, 75), (5, 76), (6, 77), (7, 78), (8, 79)] (fun i_ => match i_ with | 0 => y | 1 => .int .i64 ((j : Nat) : Int) | 2 => .pointer (some ⟨gy, 0 + j, none⟩) | 3 => .int .i64 ((q_ : Nat) : Int) | 4 => v | 5 => .int .i64 ((j : Nat) : Int) | 6 => .pointer (some ⟨llb, llo + j, none⟩) | 7 => .int .i64 ((lq : Nat) : Int) | 8 => .bool true | _ => undef) (fun _ X => Below V.heap.size V X ∧ (X.ownsRow V.heap.size 3 1 y (J) (intsL (J) (fun j => (cntC (gN cf) j n : Int)))) ∧ (X.ownsRow V.heap.size 58 2 u n (intsL (n * 2) (rwH cf)))) (by kernel_rfl) (by kernel_rfl) A.1 (by kernel_rfl) (by decide) (by decide) ⟨BB.drew, (ownD_below FX (Below.refl _ _).drew), (ownD_below FU (Below.refl _ _).drew)⟩ ?_ ?_
          · intro i_ hi_ l_ a X hl_ hf hdep hl2 hcl hno hT
            match i_, hi_ with
            | 0, _ => exact stepV rfl rfl (execMvB rfl ((hf 6 (by decide)).trans t6)) ⟨⟨_, rfl, rfl⟩, hT⟩
            | 1, _ => exact stepV rfl rfl (execMvB rfl ((hf 11 (by decide)).trans t11)) ⟨⟨_, rfl, rfl⟩, hT⟩
            | 2, _ => exact stepV rfl rfl (execIdxN (k := j) rfl ((hdep _ rfl 0 rfl _ rfl _ rfl).trans ey) (hdep _ rfl 1 rfl _ rfl _ rfl) ltj) ⟨⟨_, rfl, rfl⟩, hT⟩
            | 3, _ => exact stepV rfl rfl (execLd3 rfl (hdep _ rfl 2 rfl _ rfl _ rfl) ((own_cellI (by have h_ := hT.2.1; rw [ey] at h_; exact h_) ltj).1.trans (by rw [eq]))) ⟨⟨_, rfl, rfl⟩, hT⟩
            | 4, _ => exact stepV rfl rfl (execMvB rfl ((hf 1 (by decide)).trans t1)) ⟨⟨_, rfl, rfl⟩, hT⟩
            | 5, _ => exact stepV rfl rfl (execMvB rfl ((hf 11 (by decide)).trans t11)) ⟨⟨_, rfl, rfl⟩, hT⟩
            | 6, _ => exact stepV rfl rfl (execIdxN (k := j) rfl ((hdep _ rfl 4 rfl _ rfl _ rfl).trans ell) (hdep _ rfl 5 rfl _ rfl _ rfl) ltj) ⟨⟨_, rfl, rfl⟩, hT⟩
            | 7, _ => exact stepV rfl rfl (execLd3 rfl (hdep _ rfl 6 rfl _ rfl _ rfl) ((cll j ltj X hT.1).trans (by rw [el0]))) ⟨⟨_, rfl, rfl⟩, hT⟩
            | 8, _ => exact stepV rfl rfl (execDec (execNeN (p := q_) (q := lq) rfl (hdep _ rfl 3 rfl _ rfl _ rfl) (hdep _ rfl 7 rfl _ rfl _ rfl)) (decide_eq_true (by omega))) ⟨⟨_, rfl, rfl⟩, hT⟩
            | k_ + 9, h_ => exact absurd h_ (by simp)
          intro l_ a X18 h1 h2 h3 h4 hall hT
          clear hall
          clear BB
          clear FX
          clear FU
          obtain ⟨BB, FX, FU⟩ := hT
          replace t1 := (h3 1 (by decide)).trans t1
          replace t6 := (h3 6 (by decide)).trans t6
          replace t8 := (h3 8 (by decide)).trans t8
          replace t11 := (h3 11 (by decide)).trans t11
          have t79 : a.eval (.tmp 79) = .bool true := h4 (8, 79) (by decide)
          replace A := (⟨h1, h2.trans A.2⟩ : a.tmps.size = 81 ∧ a.defers = [])
          clear h1 h2 h3 h4
          refine wp_cond_true t79 ?_
          refine wp_seq ?_
          clear FX FU
          refine wp_region_sq (σ := Unit) 81 [(0, 4), (1, 5)] (fun j_ s X => match j_ with | 0 => Below V.heap.size V X | 1 => Below V.heap.size V X | _ => Below V.heap.size V X) (fun s => fun i_ => match i_ with | 0 => .slice none 0 0 | 1 => .int .i64 ((2 : Nat) : Int) | _ => undef) () A.1 (by kernel_rfl) (by decide) (by decide) (BB) ?_ ?_
          · intro i_ hi_ s a X hf hv hn hS
            match i_, hi_ with
            | 0, _ => exact stepV rfl rfl (execAsgB rfl rfl) ⟨s, ⟨_, rfl, rfl⟩, hS, fun _ _ => rfl⟩
            | 1, _ => exact stepV rfl rfl (execAsgB rfl rfl) ⟨s, ⟨_, rfl, rfl⟩, hS, fun _ _ => rfl⟩
            | k_ + 2, h_ => exact absurd h_ (by simp)
          rintro _ a X19 h1 h2 h3 h4 hS
          clear BB
          replace hS : Below V.heap.size V X19 := hS
          have BB := hS
          clear hS
          have t4 : a.eval (.tmp 4) = .slice none 0 0 := h4 0 _ rfl _ rfl
          have t5 : a.eval (.tmp 5) = .int .i64 ((2 : Nat) : Int) := h4 1 _ rfl _ rfl
          replace A := (⟨h1, h2.trans A.2⟩ : a.tmps.size = 81 ∧ a.defers = [])
          clear h1 h2 h3 h4
          clear t1 t6 t8 t11
          have hE : weE cf n (gN lf) J = 2 := if_neg fun q => by have h_ := (stQ_iff.1 (we_st hG q)).2 j ltj; rw [eq, el0] at h_; omega
          rw [hE, zl_no (by decide)]
          refine wp_ret ?_
          repeat (first | with_reducible refine ret_in ?_ | with_reducible refine ret_then ?_)
          refine bodyPost_ret (results_tmp2 rfl _ _ _) A.2 ⟨_, ?_, World.ownsRow_nil _ _ _ _, BB⟩
          show Ending.returned (.tuple #[a.eval (.tmp 4), a.eval (.tmp 5)]) = _
          rw [t4, t5]
      · rw [decide_eq_false ltj] at t68
        refine wp_cond_false t68 ?_
        refine wp_exit ?_
        first | with_reducible refine exit_in ?_ | with_reducible refine exit_then (exit_in ?_) | with_reducible refine exit_then (exit_then (exit_in ?_)) | refine exit_in ?_ | refine exit_then (exit_in ?_) | refine exit_then (exit_then (exit_in ?_))
        clear t68 esj
        have hjJ : j = J := by omega
        rw [hjJ] at hct
        have hE : weE cf n (gN lf) J = 0 := if_pos (st_we hG (stQ_iff.2 ⟨hin, hct⟩))
        rw [hE, zl_ok]
        clear t1 t6 t11 FX
        refine wp_seq ?_
        refine wp_region_sq (σ := Unit) 81 [(0, 80), (1, 4), (2, 5)] (fun j_ s X => match j_ with | 0 => Below V.heap.size V X ∧ (X.ownsRow V.heap.size 58 2 u n (intsL (n * 2) (rwH cf))) | 1 => Below V.heap.size V X ∧ (X.ownsRow V.heap.size 58 2 u n (intsL (n * 2) (rwH cf))) | 2 => Below V.heap.size V X ∧ (X.ownsRow V.heap.size 58 2 u n (intsL (n * 2) (rwH cf))) | _ => Below V.heap.size V X ∧ (X.ownsRow V.heap.size 58 2 u n (intsL (n * 2) (rwH cf)))) (fun s => fun i_ => match i_ with | 0 => u | 1 => u | 2 => .int .i64 ((0 : Nat) : Int) | _ => undef) () A.1 (by kernel_rfl) (by decide) (by decide) ⟨BB, FU⟩ ?_ ?_
        · intro i_ hi_ s a X hf hv hn hS
          match i_, hi_ with
          | 0, _ => exact stepV rfl rfl (execMvB rfl ((hf 8 (by decide)).trans t8)) ⟨s, ⟨_, rfl, rfl⟩, hS, fun _ _ => rfl⟩
          | 1, _ => exact stepV rfl rfl (execAsgB rfl (hv 0 (by decide) _ rfl _ rfl)) ⟨s, ⟨_, rfl, rfl⟩, hS, fun _ _ => rfl⟩
          | 2, _ => exact stepV rfl rfl (execAsgB rfl rfl) ⟨s, ⟨_, rfl, rfl⟩, hS, fun _ _ => rfl⟩
          | k_ + 3, h_ => exact absurd h_ (by simp)
        rintro _ a X20 h1 h2 h3 h4 hS
        clear BB
        clear FU
        replace hS : Below V.heap.size V X20 ∧ (X20.ownsRow V.heap.size 58 2 u n (intsL (n * 2) (rwH cf))) := hS
        obtain ⟨BB, FU⟩ := hS
        have t4 : a.eval (.tmp 4) = u := h4 1 _ rfl _ rfl
        have t5 : a.eval (.tmp 5) = .int .i64 ((0 : Nat) : Int) := h4 2 _ rfl _ rfl
        replace A := (⟨h1, h2.trans A.2⟩ : a.tmps.size = 81 ∧ a.defers = [])
        clear h1 h2 h3 h4
        clear t8
        refine wp_ret ?_
        refine bodyPost_ret (results_tmp2 rfl _ _ _) A.2 ⟨_, ?_, FU, BB⟩
        show Ending.returned (.tuple #[a.eval (.tmp 4), a.eval (.tmp 5)]) = _
        rw [t4, t5]
end Go.Proofs.Ytdecmmcphcomhaa.Brd
