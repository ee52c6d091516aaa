import Derived.Test.YtdecmmcphcomhaaQ9y
namespace Go.Proofs.Ytdecmmcphcomhaa.Brd
open Go.RowKit Gf8 Aes By8 Cel Cf Tap Drw Prm
/- Package braid as it landed: lengths and Weave of strings and of Things. Written by tools/mkQ9z.py. -/

theorem open_ss {W : World} {v : Value} {n : Nat} {f : Nat → ByteArray} (h : SliceS W v n f) (hn : 0 < n) : ∃ b o c, v = .slice (some ⟨b, o, none⟩) n c ∧ b < W.heap.size ∧ ∀ j, j < n → W.cell? ⟨b, o + j, none⟩ = some (.string (f j)) := by
  obtain ⟨a, c, rfl, _, _, hs⟩ := h.shape
  obtain ⟨b, o, rfl, h1, h2⟩ := hs hn
  exact ⟨b, o, c, rfl, h1, h2⟩
/-- The things woven, cell by cell; those that stand there by then. -/
def wvH (cf : Nat → Int) (gg : Nat → Nat → Int) (t : Nat) : Int := gg (gN cf (t / 2)) (cntC (gN cf) (gN cf (t / 2)) (t / 2) * 2 + t % 2)
def wvT (cf : Nat → Int) (gg : Nat → Nat → Int) (i t : Nat) : Int := if t < i * 2 then wvH cf gg t else 0
theorem wvT_0 (cf : Nat → Int) (gg : Nat → Nat → Int) (t : Nat) : wvT cf gg 0 t = 0 := if_neg (by omega)
theorem wvT_end (cf : Nat → Int) (gg : Nat → Nat → Int) {n t : Nat} (h : t < n * 2) : wvT cf gg n t = wvH cf gg t := if_pos h
theorem wvT_next (cf : Nat → Int) (gg : Nat → Nat → Int) {i c q : Nat} (ec : gN cf i = c) (eq : cntC (gN cf) c i = q) (t : Nat) : setT (wvT cf gg i) i (gg c (q * 2)) (gg c (q * 2 + 1)) t = wvT cf gg (i + 1) t := by
  unfold setT wvT
  by_cases h0 : t = i * 2
  · rw [if_pos h0, if_pos (by omega)]
    unfold wvH
    rw [h0, show i * 2 / 2 = i by omega, show i * 2 % 2 = 0 by omega, ec, eq]
    rfl
  · rw [if_neg h0]
    by_cases h1 : t = i * 2 + 1
    · rw [if_pos h1, if_pos (by omega)]
      unfold wvH
      rw [h1, show (i * 2 + 1) / 2 = i by omega, show (i * 2 + 1) % 2 = 1 by omega, ec, eq]
    · rw [if_neg h1]
      by_cases h2 : t < i * 2
      · rw [if_pos h2, if_pos (by omega)]
      · rw [if_neg h2, if_neg (by omega)]

/-- A list of lists. -/
structure LLS (W : World) (v : Value) (J : Nat) (x : Nat → Value) (ln : Nat → Nat) (gg : Nat → Nat → ByteArray) : Prop where
  shape : ∃ a cap, v = .slice a J cap ∧ (0 < J → ∃ b off, a = some ⟨b, off, none⟩ ∧ b < W.heap.size ∧ ∀ j, j < J → W.cell? ⟨b, off + j, none⟩ = some (x j))
  lists : ∀ j, j < J → SliceS W (x j) (ln j) (gg j)
section
variable {W W' : World} {v : Value} {J : Nat} {x : Nat → Value} {ln : Nat → Nat} {gg : Nat → Nat → ByteArray}
theorem LLS.on (h : LLS W v J x ln gg) (hb : Below W.heap.size W W') : LLS W' v J x ln gg := by
  obtain ⟨a, cap, e, hs⟩ := h.shape
  refine ⟨⟨a, cap, e, fun h0 => ?_⟩, fun j hj => (h.lists j hj).on hb⟩
  obtain ⟨b, off, e1, e2, e3⟩ := hs h0
  exact ⟨b, off, e1, Nat.lt_of_lt_of_le e2 hb.size, fun j hj => by rw [cell_below hb e2]; exact e3 j hj⟩
theorem LLS.at (h : LLS W v J x ln gg) (hJ : 0 < J) : ∃ b o c, v = .slice (some ⟨b, o, none⟩) J c ∧ b < W.heap.size ∧ ∀ j, j < J → W.cell? ⟨b, o + j, none⟩ = some (x j) := by
  obtain ⟨a, c, rfl, hs⟩ := h.shape
  obtain ⟨b, o, rfl, h1, h2⟩ := hs hJ
  exact ⟨b, o, c, rfl, h1, h2⟩
end
section
variable {o : Oper} {a : Act} {w : World}
theorem execLenLLS {x : Operand} {v : Value} {len : Nat} (ho : o.op = .call { callee := .builtin .len, args := #[x], argTypes := #[48] }) (hx : a.eval x = v) (hv : ∃ ao c, v = .slice ao len c) : (execOp a.eval o).run Try.prog w = .ok (.value (.int .i64 (len : Int))) w := by
  obtain ⟨g, c, rfl⟩ := hv
  unfold execOp
  simp only [ho, resolve, invoke, builtin, List.map_toArray, List.map_cons, List.map_nil, hx]
  simp [go_sem]
theorem execIdxLLS {x i : Operand} {b off n cap k : Nat} (ho : o.op = .indexAddr 48 x i) (hx : a.eval x = .slice (some ⟨b, off, none⟩) n cap) (hi : a.eval i = .int .i64 (k : Int)) (hk : k < n) : (execOp a.eval o).run Try.prog w = .ok (.value (.pointer (some ⟨b, off + k, none⟩))) w := by
  have h1 : (k : Int) < n := by omega
  unfold execOp
  simp only [ho, hx, hi]
  simp [go_sem, h1, Addr.add_mid]
theorem execLdLLS {x : Operand} {b f : Nat} {v : Value} (ho : o.op = .load 45 x) (hx : a.eval x = .pointer (some ⟨b, f, none⟩)) (hc : w.cell? ⟨b, f, none⟩ = some v) : (execOp a.eval o).run Try.prog w = .ok (.value v) w := by
  unfold execOp
  simp only [ho, hx]
  simp [go_sem, hc]
end
/-- A list of lists. -/
structure LLT (W : World) (v : Value) (J : Nat) (x : Nat → Value) (ln : Nat → Nat) (gg : Nat → Nat → Int) : Prop where
  shape : ∃ a cap, v = .slice a J cap ∧ (0 < J → ∃ b off, a = some ⟨b, off, none⟩ ∧ b < W.heap.size ∧ ∀ j, j < J → W.cell? ⟨b, off + j, none⟩ = some (x j))
  lists : ∀ j, j < J → SliceT W (x j) (ln j) (gg j)
section
variable {W W' : World} {v : Value} {J : Nat} {x : Nat → Value} {ln : Nat → Nat} {gg : Nat → Nat → Int}
theorem LLT.on (h : LLT W v J x ln gg) (hb : Below W.heap.size W W') : LLT W' v J x ln gg := by
  obtain ⟨a, cap, e, hs⟩ := h.shape
  refine ⟨⟨a, cap, e, fun h0 => ?_⟩, fun j hj => (h.lists j hj).on hb⟩
  obtain ⟨b, off, e1, e2, e3⟩ := hs h0
  exact ⟨b, off, e1, Nat.lt_of_lt_of_le e2 hb.size, fun j hj => by rw [cell_below hb e2]; exact e3 j hj⟩
theorem LLT.at (h : LLT W v J x ln gg) (hJ : 0 < J) : ∃ b o c, v = .slice (some ⟨b, o, none⟩) J c ∧ b < W.heap.size ∧ ∀ j, j < J → W.cell? ⟨b, o + j, none⟩ = some (x j) := by
  obtain ⟨a, c, rfl, hs⟩ := h.shape
  obtain ⟨b, o, rfl, h1, h2⟩ := hs hJ
  exact ⟨b, o, c, rfl, h1, h2⟩
end
section
variable {o : Oper} {a : Act} {w : World}
theorem execLenLLT {x : Operand} {v : Value} {len : Nat} (ho : o.op = .call { callee := .builtin .len, args := #[x], argTypes := #[50] }) (hx : a.eval x = v) (hv : ∃ ao c, v = .slice ao len c) : (execOp a.eval o).run Try.prog w = .ok (.value (.int .i64 (len : Int))) w := by
  obtain ⟨g, c, rfl⟩ := hv
  unfold execOp
  simp only [ho, resolve, invoke, builtin, List.map_toArray, List.map_cons, List.map_nil, hx]
  simp [go_sem]
theorem execIdxLLT {x i : Operand} {b off n cap k : Nat} (ho : o.op = .indexAddr 50 x i) (hx : a.eval x = .slice (some ⟨b, off, none⟩) n cap) (hi : a.eval i = .int .i64 (k : Int)) (hk : k < n) : (execOp a.eval o).run Try.prog w = .ok (.value (.pointer (some ⟨b, off + k, none⟩))) w := by
  have h1 : (k : Int) < n := by omega
  unfold execOp
  simp only [ho, hx, hi]
  simp [go_sem, h1, Addr.add_mid]
theorem execLdLLT {x : Operand} {b f : Nat} {v : Value} (ho : o.op = .load 55 x) (hx : a.eval x = .pointer (some ⟨b, f, none⟩)) (hc : w.cell? ⟨b, f, none⟩ = some v) : (execOp a.eval o).run Try.prog w = .ok (.value v) w := by
  unfold execOp
  simp only [ho, hx]
  simp [go_sem, hc]
end
set_option maxRecDepth 100000 in
set_option maxHeartbeats 4000000 in
/-- The program's lengths. -/
theorem plengthsS (J : Nat) (x : Nat → Value) (ln : Nat → Nat) (gg : Nat → Nat → ByteArray) (v : Value) (V : World) (hL : LLS V v J x ln gg) (hJ : J ≤ 2000000) :
    Calls Try.prog 38 #[v] V fun e w' => ∃ r, e = .returned r ∧ w'.ownsRow V.heap.size 3 1 r J (intsL J (fun j => (ln j : Int))) ∧ Below V.heap.size V w' := by
  have hsh : ∃ ao c, v = .slice ao J c := by obtain ⟨a_, c_, e_, _⟩ := hL.shape; exact ⟨a_, c_, e_⟩
  go_enter Try.func38, Try.ntmps38
  refine wp_seq ?_
  refine wp_region_sqK 23 [(0, 2)] (fun i_ => match i_ with | 0 => .slice none 0 0 | _ => undef) rfl (by kernel_rfl) (by decide) (by decide) ?_ ?_
  · intro i_ hi_ a hf hv hn
    match i_, hi_ with
    | 0, _ => exact stepV rfl rfl (execAsgB rfl rfl) ⟨⟨_, rfl, rfl⟩, rfl⟩
    | k_ + 1, h_ => exact absurd h_ (by simp)
  intro a h1 h2 h3 h4
  have t0 : a.eval (.tmp 0) = v := (h3 0 (by decide)).trans rfl
  have A : a.tmps.size = 23 ∧ a.defers = [] := ⟨h1, h2⟩
  have BW : Below V.heap.size V V := Below.refl _ _
  clear h1 h2 h3 h4
  have BB := BW
  refine wp_seq ?_
  refine wp_region_sq (σ := Nat) 23 [(0, 6), (1, 7), (2, 8), (3, 3)] (fun j_ s X => match j_ with | 0 => Below V.heap.size V X | 1 => Below V.heap.size V X | 2 => Below V.heap.size V X | 3 => Below V.heap.size V X ∧ (X.ownsRow V.heap.size 3 1 (.slice (some ⟨s, 0, none⟩) J J) (J) (intsL (J) (fun j => if j < 0 then (ln j : Int) else 0))) ∧ (V.heap.size ≤ s) | _ => Below V.heap.size V X ∧ (X.ownsRow V.heap.size 3 1 (.slice (some ⟨s, 0, none⟩) J J) (J) (intsL (J) (fun j => if j < 0 then (ln j : Int) else 0))) ∧ (V.heap.size ≤ s)) (fun s => fun i_ => match i_ with | 0 => v | 1 => .int .i64 ((J : Nat) : Int) | 2 => .slice (some ⟨s, 0, none⟩) J J | 3 => .slice (some ⟨s, 0, none⟩) J J | _ => undef) 0 A.1 (by kernel_rfl) (by decide) (by decide) (BB) ?_ ?_
  · intro i_ hi_ s a X hf hv hn hS
    match i_, hi_ with
    | 0, _ => exact stepV rfl rfl (execMvB rfl ((hf 0 (by decide)).trans t0)) ⟨s, ⟨_, rfl, rfl⟩, hS, fun _ _ => rfl⟩
    | 1, _ => exact stepV rfl rfl (execLenLLS (len := J) rfl (hv 0 (by decide) _ rfl _ rfl) hsh) ⟨s, ⟨_, rfl, rfl⟩, hS, fun _ _ => rfl⟩
    | 2, _ =>
      refine stepV rfl rfl (execMkN rfl (hv 1 (by decide) _ rfl _ rfl) (hv 1 (by decide) _ rfl _ rfl) (by omega)) ⟨X.heap.size, ⟨_, rfl, rfl⟩, ⟨(hS).trans (((belNew X _)).mono (hS).size), ownD_base (own_mkZ X J _ (by omega) (fun j_ _ => if_neg (Nat.not_lt_zero _))) (hS).size, (hS).size⟩, fun i hi => ?_⟩
      match i, hi with
      | 0, _ => rfl
      | 1, _ => rfl
      | n_ + 2, h_ => omega
    | 3, _ => exact stepV rfl rfl (execAsgB rfl (hv 2 (by decide) _ rfl _ rfl)) ⟨s, ⟨_, rfl, rfl⟩, hS, fun _ _ => rfl⟩
    | k_ + 4, h_ => exact absurd h_ (by simp)
  rintro g8 a X1 h1 h2 h3 h4 hS
  clear BB
  replace hS : Below V.heap.size V X1 ∧ (X1.ownsRow V.heap.size 3 1 (.slice (some ⟨g8, 0, none⟩) J J) (J) (intsL (J) (fun j => if j < 0 then (ln j : Int) else 0))) ∧ (V.heap.size ≤ g8) := hS
  obtain ⟨BB, FO, Fg⟩ := hS
  replace t0 := (h3 0 (by decide)).trans t0
  have t3 : a.eval (.tmp 3) = .slice (some ⟨g8, 0, none⟩) J J := h4 3 _ rfl _ rfl
  replace A := (⟨h1, h2.trans A.2⟩ : a.tmps.size = 23 ∧ a.defers = [])
  clear h1 h2 h3 h4
  refine wp_seq ?_
  refine wp_seq ?_
  refine wp_region_sq (σ := Unit) 23 [(0, 9), (1, 10), (2, 11)] (fun j_ s X => match j_ with | 0 => Below V.heap.size V X ∧ (X.ownsRow V.heap.size 3 1 (.slice (some ⟨g8, 0, none⟩) J J) (J) (intsL (J) (fun j => if j < 0 then (ln j : Int) else 0))) | 1 => Below V.heap.size V X ∧ (X.ownsRow V.heap.size 3 1 (.slice (some ⟨g8, 0, none⟩) J J) (J) (intsL (J) (fun j => if j < 0 then (ln j : Int) else 0))) | 2 => Below V.heap.size V X ∧ (X.ownsRow V.heap.size 3 1 (.slice (some ⟨g8, 0, none⟩) J J) (J) (intsL (J) (fun j => if j < 0 then (ln j : Int) else 0))) | _ => Below V.heap.size V X ∧ (X.ownsRow V.heap.size 3 1 (.slice (some ⟨g8, 0, none⟩) J J) (J) (intsL (J) (fun j => if j < 0 then (ln j : Int) else 0)))) (fun s => fun i_ => match i_ with | 0 => v | 1 => .int .i64 ((J : Nat) : Int) | 2 => .int .i64 ((0 : Nat) : Int) | _ => undef) () A.1 (by kernel_rfl) (by decide) (by decide) ⟨BB, FO⟩ ?_ ?_
  · intro i_ hi_ s a X hf hv hn hS
    match i_, hi_ with
    | 0, _ => exact stepV rfl rfl (execMvB rfl ((hf 0 (by decide)).trans t0)) ⟨s, ⟨_, rfl, rfl⟩, hS, fun _ _ => rfl⟩
    | 1, _ => exact stepV rfl rfl (execLenLLS (len := J) rfl (hv 0 (by decide) _ rfl _ rfl) hsh) ⟨s, ⟨_, rfl, rfl⟩, hS, fun _ _ => rfl⟩
    | 2, _ => exact stepV rfl rfl (execMvB rfl rfl) ⟨s, ⟨_, rfl, rfl⟩, hS, fun _ _ => rfl⟩
    | k_ + 3, h_ => exact absurd h_ (by simp)
  rintro _ a X2 h1 h2 h3 h4 hS
  clear BB
  clear FO
  replace hS : Below V.heap.size V X2 ∧ (X2.ownsRow V.heap.size 3 1 (.slice (some ⟨g8, 0, none⟩) J J) (J) (intsL (J) (fun j => if j < 0 then (ln j : Int) else 0))) := hS
  obtain ⟨BB, FO⟩ := hS
  replace t3 := (h3 3 (by decide)).trans t3
  have t9 : a.eval (.tmp 9) = v := h4 0 _ rfl _ rfl
  have t10 : a.eval (.tmp 10) = .int .i64 ((J : Nat) : Int) := h4 1 _ rfl _ rfl
  have t11 : a.eval (.tmp 11) = .int .i64 ((0 : Nat) : Int) := h4 2 _ rfl _ rfl
  replace A := (⟨h1, h2.trans A.2⟩ : a.tmps.size = 23 ∧ a.defers = [])
  clear h1 h2 h3 h4
  clear t0
  refine wp_block ?_
  refine wp_loop (fun a W => ∃ (i : Nat), i ≤ J ∧ (a.tmps.size = 23 ∧ a.defers = []) ∧ a.eval (.tmp 3) = .slice (some ⟨g8, 0, none⟩) J J ∧ a.eval (.tmp 9) = v ∧ a.eval (.tmp 10) = .int .i64 ((J : Nat) : Int) ∧ a.eval (.tmp 11) = .int .i64 ((i : Nat) : Int) ∧ Below V.heap.size V W ∧ (W.ownsRow V.heap.size 3 1 (.slice (some ⟨g8, 0, none⟩) J J) (J) (intsL (J) (fun j => if j < i then (ln j : Int) else 0)))) (fun a _ => J - (intOf (a.eval (.tmp 11))).toNat) ⟨0, Nat.zero_le _, A, t3, t9, t10, t11, BB, FO⟩ ?_
  clear A t3 t9 t10 t11 BB FO a
  rintro a XL3 ⟨i, hi, A, t3, t9, t10, t11, BB, FO⟩
  have esi := t11
  refine wp_seq ?_
  refine wp_region_sq (σ := Unit) 23 [(0, 12)] (fun j_ s X => match j_ with | 0 => Below V.heap.size V X ∧ (X.ownsRow V.heap.size 3 1 (.slice (some ⟨g8, 0, none⟩) J J) (J) (intsL (J) (fun j => if j < i then (ln j : Int) else 0))) | _ => Below V.heap.size V X ∧ (X.ownsRow V.heap.size 3 1 (.slice (some ⟨g8, 0, none⟩) J J) (J) (intsL (J) (fun j => if j < i then (ln j : Int) else 0)))) (fun s => fun i_ => match i_ with | 0 => .bool (decide (i < J)) | _ => undef) () A.1 (by kernel_rfl) (by decide) (by decide) ⟨BB, FO⟩ ?_ ?_
  · intro i_ hi_ s a X hf hv hn hS
    match i_, hi_ with
    | 0, _ => exact stepV rfl rfl (execLtW (p := i) (q := J) rfl ((hf 11 (by decide)).trans t11) ((hf 10 (by decide)).trans t10)) ⟨s, ⟨_, rfl, rfl⟩, hS, fun _ _ => rfl⟩
    | k_ + 1, h_ => exact absurd h_ (by simp)
  rintro _ a X3 h1 h2 h3 h4 hS
  clear BB
  clear FO
  replace hS : Below V.heap.size V X3 ∧ (X3.ownsRow V.heap.size 3 1 (.slice (some ⟨g8, 0, none⟩) J J) (J) (intsL (J) (fun j => if j < i then (ln j : Int) else 0))) := hS
  obtain ⟨BB, FO⟩ := hS
  replace t3 := (h3 3 (by decide)).trans t3
  replace t9 := (h3 9 (by decide)).trans t9
  replace t10 := (h3 10 (by decide)).trans t10
  replace t11 := (h3 11 (by decide)).trans t11
  have t12 : a.eval (.tmp 12) = .bool (decide (i < J)) := h4 0 _ rfl _ rfl
  replace A := (⟨h1, h2.trans A.2⟩ : a.tmps.size = 23 ∧ a.defers = [])
  clear h1 h2 h3 h4
  refine wp_seq ?_
  by_cases lti : i < J
  · rw [decide_eq_true lti] at t12
    refine wp_cond_true t12 ?_
    refine wp_skip ?_
    clear t12
    refine wp_seq ?_
    refine wp_block ?_
    obtain ⟨vb, vo, vc, ev, hvb, hvc⟩ := hL.at (show 0 < J by omega)
    have cV : ∀ X, Below V.heap.size V X → X.cell? ⟨vb, vo + i, none⟩ = some (x i) := fun X hX => by rw [cell_below hX hvb]; exact hvc i lti
    have hxi := (hL.lists i lti).shp
    refine wp_seq ?_
    refine wp_region_sq (σ := Unit) 23 [(0, 13), (1, 14), (2, 15), (3, 4), (4, 5)] (fun j_ s X => match j_ with | 0 => Below V.heap.size V X ∧ (X.ownsRow V.heap.size 3 1 (.slice (some ⟨g8, 0, none⟩) J J) (J) (intsL (J) (fun j => if j < i then (ln j : Int) else 0))) | 1 => Below V.heap.size V X ∧ (X.ownsRow V.heap.size 3 1 (.slice (some ⟨g8, 0, none⟩) J J) (J) (intsL (J) (fun j => if j < i then (ln j : Int) else 0))) | 2 => Below V.heap.size V X ∧ (X.ownsRow V.heap.size 3 1 (.slice (some ⟨g8, 0, none⟩) J J) (J) (intsL (J) (fun j => if j < i then (ln j : Int) else 0))) | 3 => Below V.heap.size V X ∧ (X.ownsRow V.heap.size 3 1 (.slice (some ⟨g8, 0, none⟩) J J) (J) (intsL (J) (fun j => if j < i then (ln j : Int) else 0))) | 4 => Below V.heap.size V X ∧ (X.ownsRow V.heap.size 3 1 (.slice (some ⟨g8, 0, none⟩) J J) (J) (intsL (J) (fun j => if j < i then (ln j : Int) else 0))) | _ => Below V.heap.size V X ∧ (X.ownsRow V.heap.size 3 1 (.slice (some ⟨g8, 0, none⟩) J J) (J) (intsL (J) (fun j => if j < i then (ln j : Int) else 0)))) (fun s => fun i_ => match i_ with | 0 => .int .i64 ((i : Nat) : Int) | 1 => .pointer (some ⟨vb, vo + i, none⟩) | 2 => x i | 3 => .int .i64 ((i : Nat) : Int) | 4 => x i | _ => undef) () A.1 (by kernel_rfl) (by decide) (by decide) ⟨BB, FO⟩ ?_ ?_
    · intro i_ hi_ s a X hf hv hn hS
      match i_, hi_ with
      | 0, _ => exact stepV rfl rfl (execMvB rfl ((hf 11 (by decide)).trans t11)) ⟨s, ⟨_, rfl, rfl⟩, hS, fun _ _ => rfl⟩
      | 1, _ => exact stepV rfl rfl (execIdxLLS (k := i) rfl (((hf 9 (by decide)).trans t9).trans ev) ((hf 11 (by decide)).trans t11) lti) ⟨s, ⟨_, rfl, rfl⟩, hS, fun _ _ => rfl⟩
      | 2, _ => exact stepV rfl rfl (execLdLLS (v := x i) rfl (hv 1 (by decide) _ rfl _ rfl) (cV X hS.1)) ⟨s, ⟨_, rfl, rfl⟩, hS, fun _ _ => rfl⟩
      | 3, _ => exact stepV rfl rfl (execAsgB rfl (hv 0 (by decide) _ rfl _ rfl)) ⟨s, ⟨_, rfl, rfl⟩, hS, fun _ _ => rfl⟩
      | 4, _ => exact stepV rfl rfl (execAsgB rfl (hv 2 (by decide) _ rfl _ rfl)) ⟨s, ⟨_, rfl, rfl⟩, hS, fun _ _ => rfl⟩
      | k_ + 5, h_ => exact absurd h_ (by simp)
    rintro _ a X4 h1 h2 h3 h4 hS
    clear BB
    clear FO
    replace hS : Below V.heap.size V X4 ∧ (X4.ownsRow V.heap.size 3 1 (.slice (some ⟨g8, 0, none⟩) J J) (J) (intsL (J) (fun j => if j < i then (ln j : Int) else 0))) := hS
    obtain ⟨BB, FO⟩ := hS
    replace t3 := (h3 3 (by decide)).trans t3
    replace t9 := (h3 9 (by decide)).trans t9
    replace t10 := (h3 10 (by decide)).trans t10
    replace t11 := (h3 11 (by decide)).trans t11
    have t4 : a.eval (.tmp 4) = .int .i64 ((i : Nat) : Int) := h4 3 _ rfl _ rfl
    have t5 : a.eval (.tmp 5) = x i := h4 4 _ rfl _ rfl
    replace A := (⟨h1, h2.trans A.2⟩ : a.tmps.size = 23 ∧ a.defers = [])
    clear h1 h2 h3 h4
    refine wp_region_sq (σ := Unit) 23 [(0, 16), (1, 17), (2, 18), (3, 19), (4, 20)] (fun j_ s X => match j_ with | 0 => Below V.heap.size V X ∧ (X.ownsRow V.heap.size 3 1 (.slice (some ⟨g8, 0, none⟩) J J) (J) (intsL (J) (fun j => if j < i then (ln j : Int) else 0))) | 1 => Below V.heap.size V X ∧ (X.ownsRow V.heap.size 3 1 (.slice (some ⟨g8, 0, none⟩) J J) (J) (intsL (J) (fun j => if j < i then (ln j : Int) else 0))) | 2 => Below V.heap.size V X ∧ (X.ownsRow V.heap.size 3 1 (.slice (some ⟨g8, 0, none⟩) J J) (J) (intsL (J) (fun j => if j < i then (ln j : Int) else 0))) | 3 => Below V.heap.size V X ∧ (X.ownsRow V.heap.size 3 1 (.slice (some ⟨g8, 0, none⟩) J J) (J) (intsL (J) (fun j => if j < i then (ln j : Int) else 0))) | 4 => Below V.heap.size V X ∧ (X.ownsRow V.heap.size 3 1 (.slice (some ⟨g8, 0, none⟩) J J) (J) (intsL (J) (fun j => if j < i then (ln j : Int) else 0))) | 5 => Below V.heap.size V X ∧ (X.ownsRow V.heap.size 3 1 (.slice (some ⟨g8, 0, none⟩) J J) (J) (intsL (J) (fun j => if j < i then (ln j : Int) else 0))) | _ => Below V.heap.size V X ∧ (X.ownsRow V.heap.size 3 1 (.slice (some ⟨g8, 0, none⟩) J J) (J) (intsL (J) (fun j => if j < (i + 1) then (ln j : Int) else 0)))) (fun s => fun i_ => match i_ with | 0 => .slice (some ⟨g8, 0, none⟩) J J | 1 => .int .i64 ((i : Nat) : Int) | 2 => x i | 3 => .int .i64 ((ln i : Nat) : Int) | 4 => .pointer (some ⟨g8, 0 + i, none⟩) | 5 => undef | _ => undef) () A.1 (by kernel_rfl) (by decide) (by decide) ⟨BB, FO⟩ ?_ ?_
    · intro i_ hi_ s a X hf hv hn hS
      match i_, hi_ with
      | 0, _ => exact stepV rfl rfl (execMvB rfl ((hf 3 (by decide)).trans t3)) ⟨s, ⟨_, rfl, rfl⟩, hS, fun _ _ => rfl⟩
      | 1, _ => exact stepV rfl rfl (execMvB rfl ((hf 4 (by decide)).trans t4)) ⟨s, ⟨_, rfl, rfl⟩, hS, fun _ _ => rfl⟩
      | 2, _ => exact stepV rfl rfl (execMvB rfl ((hf 5 (by decide)).trans t5)) ⟨s, ⟨_, rfl, rfl⟩, hS, fun _ _ => rfl⟩
      | 3, _ => exact stepV rfl rfl (execLenS (len := ln i) rfl (hv 2 (by decide) _ rfl _ rfl) hxi) ⟨s, ⟨_, rfl, rfl⟩, hS, fun _ _ => rfl⟩
      | 4, _ => exact stepV rfl rfl (execIdxN (k := i) rfl (hv 0 (by decide) _ rfl _ rfl) (hv 1 (by decide) _ rfl _ rfl) lti) ⟨s, ⟨_, rfl, rfl⟩, hS, fun _ _ => rfl⟩
      | 5, _ =>
        obtain ⟨hc_, hf_⟩ := own_cellI hS.2 lti
        refine stepS rfl rfl (execStI9 rfl (hv 4 (by decide) _ rfl _ rfl) (hv 3 (by decide) _ rfl _ rfl) hc_ hf_) ⟨s, ⟨_, rfl, rfl⟩, ⟨(hS.1).setCell Fg _, own_fill (F := fun j => (ln j : Int)) hS.2 rfl⟩, fun i hi => ?_⟩
        match i, hi with
        | 0, _ => rfl
        | 1, _ => rfl
        | 2, _ => rfl
        | 3, _ => rfl
        | 4, _ => rfl
        | n_ + 5, h_ => omega
      | k_ + 6, h_ => exact absurd h_ (by simp)
    rintro _ a X5 h1 h2 h3 h4 hS
    clear BB
    clear FO
    replace hS : Below V.heap.size V X5 ∧ (X5.ownsRow V.heap.size 3 1 (.slice (some ⟨g8, 0, none⟩) J J) (J) (intsL (J) (fun j => if j < (i + 1) then (ln j : Int) else 0))) := hS
    obtain ⟨BB, FO2⟩ := hS
    replace t3 := (h3 3 (by decide)).trans t3
    replace t9 := (h3 9 (by decide)).trans t9
    replace t10 := (h3 10 (by decide)).trans t10
    replace t11 := (h3 11 (by decide)).trans t11
    replace A := (⟨h1, h2.trans A.2⟩ : a.tmps.size = 23 ∧ a.defers = [])
    clear h1 h2 h3 h4
    clear t4 t5
    refine wp_region_sq (σ := Unit) 23 [(0, 21), (1, 11)] (fun j_ s X => match j_ with | 0 => Below V.heap.size V X ∧ (X.ownsRow V.heap.size 3 1 (.slice (some ⟨g8, 0, none⟩) J J) (J) (intsL (J) (fun j => if j < (i + 1) then (ln j : Int) else 0))) | 1 => Below V.heap.size V X ∧ (X.ownsRow V.heap.size 3 1 (.slice (some ⟨g8, 0, none⟩) J J) (J) (intsL (J) (fun j => if j < (i + 1) then (ln j : Int) else 0))) | _ => Below V.heap.size V X ∧ (X.ownsRow V.heap.size 3 1 (.slice (some ⟨g8, 0, none⟩) J J) (J) (intsL (J) (fun j => if j < (i + 1) then (ln j : Int) else 0)))) (fun s => fun i_ => match i_ with | 0 => .int .i64 ((i + 1 : Nat) : Int) | 1 => .int .i64 ((i + 1 : Nat) : Int) | _ => undef) () A.1 (by kernel_rfl) (by decide) (by decide) ⟨BB, FO2⟩ ?_ ?_
    · intro i_ hi_ s a X hf hv hn hS
      match i_, hi_ with
      | 0, _ => exact stepV rfl rfl (execAd8 (p := i) (q := 1) rfl ((hn 1 (by decide) _ rfl _ rfl).trans t11) rfl (by omega)) ⟨s, ⟨_, rfl, rfl⟩, hS, fun _ _ => rfl⟩
      | 1, _ => exact stepV rfl rfl (execMvB rfl (hv 0 (by decide) _ rfl _ rfl)) ⟨s, ⟨_, rfl, rfl⟩, hS, fun _ _ => rfl⟩
      | k_ + 2, h_ => exact absurd h_ (by simp)
    rintro _ a X6 h1 h2 h3 h4 hS
    clear BB
    clear FO2
    replace hS : Below V.heap.size V X6 ∧ (X6.ownsRow V.heap.size 3 1 (.slice (some ⟨g8, 0, none⟩) J J) (J) (intsL (J) (fun j => if j < (i + 1) then (ln j : Int) else 0))) := hS
    obtain ⟨BB, FO2⟩ := hS
    replace t3 := (h3 3 (by decide)).trans t3
    replace t9 := (h3 9 (by decide)).trans t9
    replace t10 := (h3 10 (by decide)).trans t10
    replace t11 : a.eval (.tmp 11) = .int .i64 ((i + 1 : Nat) : Int) := h4 1 _ rfl _ rfl
    replace A := (⟨h1, h2.trans A.2⟩ : a.tmps.size = 23 ∧ a.defers = [])
    clear h1 h2 h3 h4
    exact ⟨⟨i + 1, lti, A, t3, t9, t10, t11, BB, FO2⟩, by show J - (intOf (a.eval (.tmp 11))).toNat < J - (intOf (Act.eval _ (.tmp 11))).toNat; rw [t11, esi]; show J - (i + 1) < J - i; omega⟩
  · rw [decide_eq_false lti] at t12
    refine wp_cond_false t12 ?_
    refine wp_exit ?_
    first | with_reducible refine exit_in ?_ | with_reducible refine exit_then (exit_in ?_) | with_reducible refine exit_then (exit_then (exit_in ?_)) | refine exit_in ?_ | refine exit_then (exit_in ?_) | refine exit_then (exit_then (exit_in ?_))
    clear t12 esi
    have hiJ : i = J := by omega
    rw [hiJ, intsL_congr (g := fun j => (ln j : Int)) (fun j hj => if_pos hj)] at FO
    clear t9 t10 t11
    refine wp_seq ?_
    refine wp_region_sq (σ := Unit) 23 [(0, 22), (1, 2)] (fun j_ s X => match j_ with | 0 => Below V.heap.size V X ∧ (X.ownsRow V.heap.size 3 1 (.slice (some ⟨g8, 0, none⟩) J J) (J) (intsL (J) (fun j => (ln j : Int)))) | 1 => Below V.heap.size V X ∧ (X.ownsRow V.heap.size 3 1 (.slice (some ⟨g8, 0, none⟩) J J) (J) (intsL (J) (fun j => (ln j : Int)))) | _ => Below V.heap.size V X ∧ (X.ownsRow V.heap.size 3 1 (.slice (some ⟨g8, 0, none⟩) J J) (J) (intsL (J) (fun j => (ln j : Int))))) (fun s => fun i_ => match i_ with | 0 => .slice (some ⟨g8, 0, none⟩) J J | 1 => .slice (some ⟨g8, 0, none⟩) J J | _ => undef) () A.1 (by kernel_rfl) (by decide) (by decide) ⟨BB, FO⟩ ?_ ?_
    · intro i_ hi_ s a X hf hv hn hS
      match i_, hi_ with
      | 0, _ => exact stepV rfl rfl (execMvB rfl ((hf 3 (by decide)).trans t3)) ⟨s, ⟨_, rfl, rfl⟩, hS, fun _ _ => rfl⟩
      | 1, _ => exact stepV rfl rfl (execAsgB rfl (hv 0 (by decide) _ rfl _ rfl)) ⟨s, ⟨_, rfl, rfl⟩, hS, fun _ _ => rfl⟩
      | k_ + 2, h_ => exact absurd h_ (by simp)
    rintro _ a X7 h1 h2 h3 h4 hS
    clear BB
    clear FO
    replace hS : Below V.heap.size V X7 ∧ (X7.ownsRow V.heap.size 3 1 (.slice (some ⟨g8, 0, none⟩) J J) (J) (intsL (J) (fun j => (ln j : Int)))) := hS
    obtain ⟨BB, FO⟩ := hS
    have t2 : a.eval (.tmp 2) = .slice (some ⟨g8, 0, none⟩) J J := h4 1 _ rfl _ rfl
    replace A := (⟨h1, h2.trans A.2⟩ : a.tmps.size = 23 ∧ a.defers = [])
    clear h1 h2 h3 h4
    clear t3
    refine wp_ret ?_
    refine bodyPost_ret (results_tmp rfl _ _ _) A.2 ⟨_, ?_, FO, BB⟩
    show Ending.returned (a.eval (.tmp 2)) = _
    rw [t2]
set_option maxRecDepth 100000 in
set_option maxHeartbeats 4000000 in
/-- The program's lengths. -/
theorem plengthsT (J : Nat) (x : Nat → Value) (ln : Nat → Nat) (gg : Nat → Nat → Int) (v : Value) (V : World) (hL : LLT V v J x ln gg) (hJ : J ≤ 2000000) :
    Calls Try.prog 39 #[v] V fun e w' => ∃ r, e = .returned r ∧ w'.ownsRow V.heap.size 3 1 r J (intsL J (fun j => (ln j : Int))) ∧ Below V.heap.size V w' := by
  have hsh : ∃ ao c, v = .slice ao J c := by obtain ⟨a_, c_, e_, _⟩ := hL.shape; exact ⟨a_, c_, e_⟩
  go_enter Try.func39, Try.ntmps39
  refine wp_seq ?_
  refine wp_region_sqK 23 [(0, 2)] (fun i_ => match i_ with | 0 => .slice none 0 0 | _ => undef) rfl (by kernel_rfl) (by decide) (by decide) ?_ ?_
  · intro i_ hi_ a hf hv hn
    match i_, hi_ with
    | 0, _ => exact stepV rfl rfl (execAsgB rfl rfl) ⟨⟨_, rfl, rfl⟩, rfl⟩
    | k_ + 1, h_ => exact absurd h_ (by simp)
  intro a h1 h2 h3 h4
  have t0 : a.eval (.tmp 0) = v := (h3 0 (by decide)).trans rfl
  have A : a.tmps.size = 23 ∧ a.defers = [] := ⟨h1, h2⟩
  have BW : Below V.heap.size V V := Below.refl _ _
  clear h1 h2 h3 h4
  have BB := BW
  refine wp_seq ?_
  refine wp_region_sq (σ := Nat) 23 [(0, 6), (1, 7), (2, 8), (3, 3)] (fun j_ s X => match j_ with | 0 => Below V.heap.size V X | 1 => Below V.heap.size V X | 2 => Below V.heap.size V X | 3 => Below V.heap.size V X ∧ (X.ownsRow V.heap.size 3 1 (.slice (some ⟨s, 0, none⟩) J J) (J) (intsL (J) (fun j => if j < 0 then (ln j : Int) else 0))) ∧ (V.heap.size ≤ s) | _ => Below V.heap.size V X ∧ (X.ownsRow V.heap.size 3 1 (.slice (some ⟨s, 0, none⟩) J J) (J) (intsL (J) (fun j => if j < 0 then (ln j : Int) else 0))) ∧ (V.heap.size ≤ s)) (fun s => fun i_ => match i_ with | 0 => v | 1 => .int .i64 ((J : Nat) : Int) | 2 => .slice (some ⟨s, 0, none⟩) J J | 3 => .slice (some ⟨s, 0, none⟩) J J | _ => undef) 0 A.1 (by kernel_rfl) (by decide) (by decide) (BB) ?_ ?_
  · intro i_ hi_ s a X hf hv hn hS
    match i_, hi_ with
    | 0, _ => exact stepV rfl rfl (execMvB rfl ((hf 0 (by decide)).trans t0)) ⟨s, ⟨_, rfl, rfl⟩, hS, fun _ _ => rfl⟩
    | 1, _ => exact stepV rfl rfl (execLenLLT (len := J) rfl (hv 0 (by decide) _ rfl _ rfl) hsh) ⟨s, ⟨_, rfl, rfl⟩, hS, fun _ _ => rfl⟩
    | 2, _ =>
      refine stepV rfl rfl (execMkN rfl (hv 1 (by decide) _ rfl _ rfl) (hv 1 (by decide) _ rfl _ rfl) (by omega)) ⟨X.heap.size, ⟨_, rfl, rfl⟩, ⟨(hS).trans (((belNew X _)).mono (hS).size), ownD_base (own_mkZ X J _ (by omega) (fun j_ _ => if_neg (Nat.not_lt_zero _))) (hS).size, (hS).size⟩, fun i hi => ?_⟩
      match i, hi with
      | 0, _ => rfl
      | 1, _ => rfl
      | n_ + 2, h_ => omega
    | 3, _ => exact stepV rfl rfl (execAsgB rfl (hv 2 (by decide) _ rfl _ rfl)) ⟨s, ⟨_, rfl, rfl⟩, hS, fun _ _ => rfl⟩
    | k_ + 4, h_ => exact absurd h_ (by simp)
  rintro g8 a X1 h1 h2 h3 h4 hS
  clear BB
  replace hS : Below V.heap.size V X1 ∧ (X1.ownsRow V.heap.size 3 1 (.slice (some ⟨g8, 0, none⟩) J J) (J) (intsL (J) (fun j => if j < 0 then (ln j : Int) else 0))) ∧ (V.heap.size ≤ g8) := hS
  obtain ⟨BB, FO, Fg⟩ := hS
  replace t0 := (h3 0 (by decide)).trans t0
  have t3 : a.eval (.tmp 3) = .slice (some ⟨g8, 0, none⟩) J J := h4 3 _ rfl _ rfl
  replace A := (⟨h1, h2.trans A.2⟩ : a.tmps.size = 23 ∧ a.defers = [])
  clear h1 h2 h3 h4
  refine wp_seq ?_
  refine wp_seq ?_
  refine wp_region_sq (σ := Unit) 23 [(0, 9), (1, 10), (2, 11)] (fun j_ s X => match j_ with | 0 => Below V.heap.size V X ∧ (X.ownsRow V.heap.size 3 1 (.slice (some ⟨g8, 0, none⟩) J J) (J) (intsL (J) (fun j => if j < 0 then (ln j : Int) else 0))) | 1 => Below V.heap.size V X ∧ (X.ownsRow V.heap.size 3 1 (.slice (some ⟨g8, 0, none⟩) J J) (J) (intsL (J) (fun j => if j < 0 then (ln j : Int) else 0))) | 2 => Below V.heap.size V X ∧ (X.ownsRow V.heap.size 3 1 (.slice (some ⟨g8, 0, none⟩) J J) (J) (intsL (J) (fun j => if j < 0 then (ln j : Int) else 0))) | _ => Below V.heap.size V X ∧ (X.ownsRow V.heap.size 3 1 (.slice (some ⟨g8, 0, none⟩) J J) (J) (intsL (J) (fun j => if j < 0 then (ln j : Int) else 0)))) (fun s => fun i_ => match i_ with | 0 => v | 1 => .int .i64 ((J : Nat) : Int) | 2 => .int .i64 ((0 : Nat) : Int) | _ => undef) () A.1 (by kernel_rfl) (by decide) (by decide) ⟨BB, FO⟩ ?_ ?_
  · intro i_ hi_ s a X hf hv hn hS
    match i_, hi_ with
    | 0, _ => exact stepV rfl rfl (execMvB rfl ((hf 0 (by decide)).trans t0)) ⟨s, ⟨_, rfl, rfl⟩, hS, fun _ _ => rfl⟩
    | 1, _ => exact stepV rfl rfl (execLenLLT (len := J) rfl (hv 0 (by decide) _ rfl _ rfl) hsh) ⟨s, ⟨_, rfl, rfl⟩, hS, fun _ _ => rfl⟩
    | 2, _ => exact stepV rfl rfl (execMvB rfl rfl) ⟨s, ⟨_, rfl, rfl⟩, hS, fun _ _ => rfl⟩
    | k_ + 3, h_ => exact absurd h_ (by simp)
  rintro _ a X2 h1 h2 h3 h4 hS
  clear BB
  clear FO
  replace hS : Below V.heap.size V X2 ∧ (X2.ownsRow V.heap.size 3 1 (.slice (some ⟨g8, 0, none⟩) J J) (J) (intsL (J) (fun j => if j < 0 then (ln j : Int) else 0))) := hS
  obtain ⟨BB, FO⟩ := hS
  replace t3 := (h3 3 (by decide)).trans t3
  have t9 : a.eval (.tmp 9) = v := h4 0 _ rfl _ rfl
  have t10 : a.eval (.tmp 10) = .int .i64 ((J : Nat) : Int) := h4 1 _ rfl _ rfl
  have t11 : a.eval (.tmp 11) = .int .i64 ((0 : Nat) : Int) := h4 2 _ rfl _ rfl
  replace A := (⟨h1, h2.trans A.2⟩ : a.tmps.size = 23 ∧ a.defers = [])
  clear h1 h2 h3 h4
  clear t0
  refine wp_block ?_
  refine wp_loop (fun a W => ∃ (i : Nat), i ≤ J ∧ (a.tmps.size = 23 ∧ a.defers = []) ∧ a.eval (.tmp 3) = .slice (some ⟨g8, 0, none⟩) J J ∧ a.eval (.tmp 9) = v ∧ a.eval (.tmp 10) = .int .i64 ((J : Nat) : Int) ∧ a.eval (.tmp 11) = .int .i64 ((i : Nat) : Int) ∧ Below V.heap.size V W ∧ (W.ownsRow V.heap.size 3 1 (.slice (some ⟨g8, 0, none⟩) J J) (J) (intsL (J) (fun j => if j < i then (ln j : Int) else 0)))) (fun a _ => J - (intOf (a.eval (.tmp 11))).toNat) ⟨0, Nat.zero_le _, A, t3, t9, t10, t11, BB, FO⟩ ?_
  clear A t3 t9 t10 t11 BB FO a
  rintro a XL3 ⟨i, hi, A, t3, t9, t10, t11, BB, FO⟩
  have esi := t11
  refine wp_seq ?_
  refine wp_region_sq (σ := Unit) 23 [(0, 12)] (fun j_ s X => match j_ with | 0 => Below V.heap.size V X ∧ (X.ownsRow V.heap.size 3 1 (.slice (some ⟨g8, 0, none⟩) J J) (J) (intsL (J) (fun j => if j < i then (ln j : Int) else 0))) | _ => Below V.heap.size V X ∧ (X.ownsRow V.heap.size 3 1 (.slice (some ⟨g8, 0, none⟩) J J) (J) (intsL (J) (fun j => if j < i then (ln j : Int) else 0)))) (fun s => fun i_ => match i_ with | 0 => .bool (decide (i < J)) | _ => undef) () A.1 (by kernel_rfl) (by decide) (by decide) ⟨BB, FO⟩ ?_ ?_
  · intro i_ hi_ s a X hf hv hn hS
    match i_, hi_ with
    | 0, _ => exact stepV rfl rfl (execLtW (p := i) (q := J) rfl ((hf 11 (by decide)).trans t11) ((hf 10 (by decide)).trans t10)) ⟨s, ⟨_, rfl, rfl⟩, hS, fun _ _ => rfl⟩
    | k_ + 1, h_ => exact absurd h_ (by simp)
  rintro _ a X3 h1 h2 h3 h4 hS
  clear BB
  clear FO
  replace hS : Below V.heap.size V X3 ∧ (X3.ownsRow V.heap.size 3 1 (.slice (some ⟨g8, 0, none⟩) J J) (J) (intsL (J) (fun j => if j < i then (ln j : Int) else 0))) := hS
  obtain ⟨BB, FO⟩ := hS
  replace t3 := (h3 3 (by decide)).trans t3
  replace t9 := (h3 9 (by decide)).trans t9
  replace t10 := (h3 10 (by decide)).trans t10
  replace t11 := (h3 11 (by decide)).trans t11
  have t12 : a.eval (.tmp 12) = .bool (decide (i < J)) := h4 0 _ rfl _ rfl
  replace A := (⟨h1, h2.trans A.2⟩ : a.tmps.size = 23 ∧ a.defers = [])
  clear h1 h2 h3 h4
  refine wp_seq ?_
  by_cases lti : i < J
  · rw [decide_eq_true lti] at t12
    refine wp_cond_true t12 ?_
    refine wp_skip ?_
    clear t12
    refine wp_seq ?_
    refine wp_block ?_
    obtain ⟨vb, vo, vc, ev, hvb, hvc⟩ := hL.at (show 0 < J by omega)
    have cV : ∀ X, Below V.heap.size V X → X.cell? ⟨vb, vo + i, none⟩ = some (x i) := fun X hX => by rw [cell_below hX hvb]; exact hvc i lti
    have hxi := (hL.lists i lti).shp
    refine wp_seq ?_
    refine wp_region_sq (σ := Unit) 23 [(0, 13), (1, 14), (2, 15), (3, 4), (4, 5)] (fun j_ s X => match j_ with | 0 => Below V.heap.size V X ∧ (X.ownsRow V.heap.size 3 1 (.slice (some ⟨g8, 0, none⟩) J J) (J) (intsL (J) (fun j => if j < i then (ln j : Int) else 0))) | 1 => Below V.heap.size V X ∧ (X.ownsRow V.heap.size 3 1 (.slice (some ⟨g8, 0, none⟩) J J) (J) (intsL (J) (fun j => if j < i then (ln j : Int) else 0))) | 2 => Below V.heap.size V X ∧ (X.ownsRow V.heap.size 3 1 (.slice (some ⟨g8, 0, none⟩) J J) (J) (intsL (J) (fun j => if j < i then (ln j : Int) else 0))) | 3 => Below V.heap.size V X ∧ (X.ownsRow V.heap.size 3 1 (.slice (some ⟨g8, 0, none⟩) J J) (J) (intsL (J) (fun j => if j < i then (ln j : Int) else 0))) | 4 => Below V.heap.size V X ∧ (X.ownsRow V.heap.size 3 1 (.slice (some ⟨g8, 0, none⟩) J J) (J) (intsL (J) (fun j => if j < i then (ln j : Int) else 0))) | _ => Below V.heap.size V X ∧ (X.ownsRow V.heap.size 3 1 (.slice (some ⟨g8, 0, none⟩) J J) (J) (intsL (J) (fun j => if j < i then (ln j : Int) else 0)))) (fun s => fun i_ => match i_ with | 0 => .int .i64 ((i : Nat) : Int) | 1 => .pointer (some ⟨vb, vo + i, none⟩) | 2 => x i | 3 => .int .i64 ((i : Nat) : Int) | 4 => x i | _ => undef) () A.1 (by kernel_rfl) (by decide) (by decide) ⟨BB, FO⟩ ?_ ?_
    · intro i_ hi_ s a X hf hv hn hS
      match i_, hi_ with
      | 0, _ => exact stepV rfl rfl (execMvB rfl ((hf 11 (by decide)).trans t11)) ⟨s, ⟨_, rfl, rfl⟩, hS, fun _ _ => rfl⟩
      | 1, _ => exact stepV rfl rfl (execIdxLLT (k := i) rfl (((hf 9 (by decide)).trans t9).trans ev) ((hf 11 (by decide)).trans t11) lti) ⟨s, ⟨_, rfl, rfl⟩, hS, fun _ _ => rfl⟩
      | 2, _ => exact stepV rfl rfl (execLdLLT (v := x i) rfl (hv 1 (by decide) _ rfl _ rfl) (cV X hS.1)) ⟨s, ⟨_, rfl, rfl⟩, hS, fun _ _ => rfl⟩
      | 3, _ => exact stepV rfl rfl (execAsgB rfl (hv 0 (by decide) _ rfl _ rfl)) ⟨s, ⟨_, rfl, rfl⟩, hS, fun _ _ => rfl⟩
      | 4, _ => exact stepV rfl rfl (execAsgB rfl (hv 2 (by decide) _ rfl _ rfl)) ⟨s, ⟨_, rfl, rfl⟩, hS, fun _ _ => rfl⟩
      | k_ + 5, h_ => exact absurd h_ (by simp)
    rintro _ a X4 h1 h2 h3 h4 hS
    clear BB
    clear FO
    replace hS : Below V.heap.size V X4 ∧ (X4.ownsRow V.heap.size 3 1 (.slice (some ⟨g8, 0, none⟩) J J) (J) (intsL (J) (fun j => if j < i then (ln j : Int) else 0))) := hS
    obtain ⟨BB, FO⟩ := hS
    replace t3 := (h3 3 (by decide)).trans t3
    replace t9 := (h3 9 (by decide)).trans t9
    replace t10 := (h3 10 (by decide)).trans t10
    replace t11 := (h3 11 (by decide)).trans t11
    have t4 : a.eval (.tmp 4) = .int .i64 ((i : Nat) : Int) := h4 3 _ rfl _ rfl
    have t5 : a.eval (.tmp 5) = x i := h4 4 _ rfl _ rfl
    replace A := (⟨h1, h2.trans A.2⟩ : a.tmps.size = 23 ∧ a.defers = [])
    clear h1 h2 h3 h4
    refine wp_region_sq (σ := Unit) 23 [(0, 16), (1, 17), (2, 18), (3, 19), (4, 20)] (fun j_ s X => match j_ with | 0 => Below V.heap.size V X ∧ (X.ownsRow V.heap.size 3 1 (.slice (some ⟨g8, 0, none⟩) J J) (J) (intsL (J) (fun j => if j < i then (ln j : Int) else 0))) | 1 => Below V.heap.size V X ∧ (X.ownsRow V.heap.size 3 1 (.slice (some ⟨g8, 0, none⟩) J J) (J) (intsL (J) (fun j => if j < i then (ln j : Int) else 0))) | 2 => Below V.heap.size V X ∧ (X.ownsRow V.heap.size 3 1 (.slice (some ⟨g8, 0, none⟩) J J) (J) (intsL (J) (fun j => if j < i then (ln j : Int) else 0))) | 3 => Below V.heap.size V X ∧ (X.ownsRow V.heap.size 3 1 (.slice (some ⟨g8, 0, none⟩) J J) (J) (intsL (J) (fun j => if j < i then (ln j : Int) else 0))) | 4 => Below V.heap.size V X ∧ (X.ownsRow V.heap.size 3 1 (.slice (some ⟨g8, 0, none⟩) J J) (J) (intsL (J) (fun j => if j < i then (ln j : Int) else 0))) | 5 => Below V.heap.size V X ∧ (X.ownsRow V.heap.size 3 1 (.slice (some ⟨g8, 0, none⟩) J J) (J) (intsL (J) (fun j => if j < i then (ln j : Int) else 0))) | _ => Below V.heap.size V X ∧ (X.ownsRow V.heap.size 3 1 (.slice (some ⟨g8, 0, none⟩) J J) (J) (intsL (J) (fun j => if j < (i + 1) then (ln j : Int) else 0)))) (fun s => fun i_ => match i_ with | 0 => .slice (some ⟨g8, 0, none⟩) J J | 1 => .int .i64 ((i : Nat) : Int) | 2 => x i | 3 => .int .i64 ((ln i : Nat) : Int) | 4 => .pointer (some ⟨g8, 0 + i, none⟩) | 5 => undef | _ => undef) () A.1 (by kernel_rfl) (by decide) (by decide) ⟨BB, FO⟩ ?_ ?_
    · intro i_ hi_ s a X hf hv hn hS
      match i_, hi_ with
      | 0, _ => exact stepV rfl rfl (execMvB rfl ((hf 3 (by decide)).trans t3)) ⟨s, ⟨_, rfl, rfl⟩, hS, fun _ _ => rfl⟩
      | 1, _ => exact stepV rfl rfl (execMvB rfl ((hf 4 (by decide)).trans t4)) ⟨s, ⟨_, rfl, rfl⟩, hS, fun _ _ => rfl⟩
      | 2, _ => exact stepV rfl rfl (execMvB rfl ((hf 5 (by decide)).trans t5)) ⟨s, ⟨_, rfl, rfl⟩, hS, fun _ _ => rfl⟩
      | 3, _ => exact stepV rfl rfl (execLenTh (len := ln i) rfl (hv 2 (by decide) _ rfl _ rfl) hxi) ⟨s, ⟨_, rfl, rfl⟩, hS, fun _ _ => rfl⟩
      | 4, _ => exact stepV rfl rfl (execIdxN (k := i) rfl (hv 0 (by decide) _ rfl _ rfl) (hv 1 (by decide) _ rfl _ rfl) lti) ⟨s, ⟨_, rfl, rfl⟩, hS, fun _ _ => rfl⟩
      | 5, _ =>
        obtain ⟨hc_, hf_⟩ := own_cellI hS.2 lti
        refine stepS rfl rfl (execStI9 rfl (hv 4 (by decide) _ rfl _ rfl) (hv 3 (by decide) _ rfl _ rfl) hc_ hf_) ⟨s, ⟨_, rfl, rfl⟩, ⟨(hS.1).setCell Fg _, own_fill (F := fun j => (ln j : Int)) hS.2 rfl⟩, fun i hi => ?_⟩
        match i, hi with
        | 0, _ => rfl
        | 1, _ => rfl
        | 2, _ => rfl
        | 3, _ => rfl
        | 4, _ => rfl
        | n_ + 5, h_ => omega
      | k_ + 6, h_ => exact absurd h_ (by simp)
    rintro _ a X5 h1 h2 h3 h4 hS
    clear BB
    clear FO
    replace hS : Below V.heap.size V X5 ∧ (X5.ownsRow V.heap.size 3 1 (.slice (some ⟨g8, 0, none⟩) J J) (J) (intsL (J) (fun j => if j < (i + 1) then (ln j : Int) else 0))) := hS
    obtain ⟨BB, FO2⟩ := hS
    replace t3 := (h3 3 (by decide)).trans t3
    replace t9 := (h3 9 (by decide)).trans t9
    replace t10 := (h3 10 (by decide)).trans t10
    replace t11 := (h3 11 (by decide)).trans t11
    replace A := (⟨h1, h2.trans A.2⟩ : a.tmps.size = 23 ∧ a.defers = [])
    clear h1 h2 h3 h4
    clear t4 t5
    refine wp_region_sq (σ := Unit) 23 [(0, 21), (1, 11)] (fun j_ s X => match j_ with | 0 => Below V.heap.size V X ∧ (X.ownsRow V.heap.size 3 1 (.slice (some ⟨g8, 0, none⟩) J J) (J) (intsL (J) (fun j => if j < (i + 1) then (ln j : Int) else 0))) | 1 => Below V.heap.size V X ∧ (X.ownsRow V.heap.size 3 1 (.slice (some ⟨g8, 0, none⟩) J J) (J) (intsL (J) (fun j => if j < (i + 1) then (ln j : Int) else 0))) | _ => Below V.heap.size V X ∧ (X.ownsRow V.heap.size 3 1 (.slice (some ⟨g8, 0, none⟩) J J) (J) (intsL (J) (fun j => if j < (i + 1) then (ln j : Int) else 0)))) (fun s => fun i_ => match i_ with | 0 => .int .i64 ((i + 1 : Nat) : Int) | 1 => .int .i64 ((i + 1 : Nat) : Int) | _ => undef) () A.1 (by kernel_rfl) (by decide) (by decide) ⟨BB, FO2⟩ ?_ ?_
    · intro i_ hi_ s a X hf hv hn hS
      match i_, hi_ with
      | 0, _ => exact stepV rfl rfl (execAd8 (p := i) (q := 1) rfl ((hn 1 (by decide) _ rfl _ rfl).trans t11) rfl (by omega)) ⟨s, ⟨_, rfl, rfl⟩, hS, fun _ _ => rfl⟩
      | 1, _ => exact stepV rfl rfl (execMvB rfl (hv 0 (by decide) _ rfl _ rfl)) ⟨s, ⟨_, rfl, rfl⟩, hS, fun _ _ => rfl⟩
      | k_ + 2, h_ => exact absurd h_ (by simp)
    rintro _ a X6 h1 h2 h3 h4 hS
    clear BB
    clear FO2
    replace hS : Below V.heap.size V X6 ∧ (X6.ownsRow V.heap.size 3 1 (.slice (some ⟨g8, 0, none⟩) J J) (J) (intsL (J) (fun j => if j < (i + 1) then (ln j : Int) else 0))) := hS
    obtain ⟨BB, FO2⟩ := hS
    replace t3 := (h3 3 (by decide)).trans t3
    replace t9 := (h3 9 (by decide)).trans t9
    replace t10 := (h3 10 (by decide)).trans t10
    replace t11 : a.eval (.tmp 11) = .int .i64 ((i + 1 : Nat) : Int) := h4 1 _ rfl _ rfl
    replace A := (⟨h1, h2.trans A.2⟩ : a.tmps.size = 23 ∧ a.defers = [])
    clear h1 h2 h3 h4
    exact ⟨⟨i + 1, lti, A, t3, t9, t10, t11, BB, FO2⟩, by show J - (intOf (a.eval (.tmp 11))).toNat < J - (intOf (Act.eval _ (.tmp 11))).toNat; rw [t11, esi]; show J - (i + 1) < J - i; omega⟩
  · rw [decide_eq_false lti] at t12
    refine wp_cond_false t12 ?_
    refine wp_exit ?_
    first | with_reducible refine exit_in ?_ | with_reducible refine exit_then (exit_in ?_) | with_reducible refine exit_then (exit_then (exit_in ?_)) | refine exit_in ?_ | refine exit_then (exit_in ?_) | refine exit_then (exit_then (exit_in ?_))
    clear t12 esi
    have hiJ : i = J := by omega
    rw [hiJ, intsL_congr (g := fun j => (ln j : Int)) (fun j hj => if_pos hj)] at FO
    clear t9 t10 t11
    refine wp_seq ?_
    refine wp_region_sq (σ := Unit) 23 [(0, 22), (1, 2)] (fun j_ s X => match j_ with | 0 => Below V.heap.size V X ∧ (X.ownsRow V.heap.size 3 1 (.slice (some ⟨g8, 0, none⟩) J J) (J) (intsL (J) (fun j => (ln j : Int)))) | 1 => Below V.heap.size V X ∧ (X.ownsRow V.heap.size 3 1 (.slice (some ⟨g8, 0, none⟩) J J) (J) (intsL (J) (fun j => (ln j : Int)))) | _ => Below V.heap.size V X ∧ (X.ownsRow V.heap.size 3 1 (.slice (some ⟨g8, 0, none⟩) J J) (J) (intsL (J) (fun j => (ln j : Int))))) (fun s => fun i_ => match i_ with | 0 => .slice (some ⟨g8, 0, none⟩) J J | 1 => .slice (some ⟨g8, 0, none⟩) J J | _ => undef) () A.1 (by kernel_rfl) (by decide) (by decide) ⟨BB, FO⟩ ?_ ?_
    · intro i_ hi_ s a X hf hv hn hS
      match i_, hi_ with
      | 0, _ => exact stepV rfl rfl (execMvB rfl ((hf 3 (by decide)).trans t3)) ⟨s, ⟨_, rfl, rfl⟩, hS, fun _ _ => rfl⟩
      | 1, _ => exact stepV rfl rfl (execAsgB rfl (hv 0 (by decide) _ rfl _ rfl)) ⟨s, ⟨_, rfl, rfl⟩, hS, fun _ _ => rfl⟩
      | k_ + 2, h_ => exact absurd h_ (by simp)
    rintro _ a X7 h1 h2 h3 h4 hS
    clear BB
    clear FO
    replace hS : Below V.heap.size V X7 ∧ (X7.ownsRow V.heap.size 3 1 (.slice (some ⟨g8, 0, none⟩) J J) (J) (intsL (J) (fun j => (ln j : Int)))) := hS
    obtain ⟨BB, FO⟩ := hS
    have t2 : a.eval (.tmp 2) = .slice (some ⟨g8, 0, none⟩) J J := h4 1 _ rfl _ rfl
    replace A := (⟨h1, h2.trans A.2⟩ : a.tmps.size = 23 ∧ a.defers = [])
    clear h1 h2 h3 h4
    clear t3
    refine wp_ret ?_
    refine bodyPost_ret (results_tmp rfl _ _ _) A.2 ⟨_, ?_, FO, BB⟩
    show Ending.returned (a.eval (.tmp 2)) = _
    rw [t2]
set_option maxRecDepth 100000 in
set_option maxHeartbeats 4000000 in
/-- The program's Weave. -/
theorem pweaveS (cf : Nat → Int) (n J : Nat) (x : Nat → Value) (ln : Nat → Nat) (gg : Nat → Nat → ByteArray) (u0 v : Value) (V : World) (FJ : SliceI V u0 n cf) (hn17 : n ≤ 17592186044416) (hL : LLS V v J x ln gg) (hJ : J ≤ 2000000) (hls : sumN ln J ≤ 2000000) :
    Calls Try.prog 22 #[u0, v] V fun e w' => ∃ r, e = .returned (.tuple #[r, .int .i64 ((weE cf n ln J : Nat) : Int)]) ∧ w'.ownsRow V.heap.size 9 1 r (zl (weE cf n ln J) n) (strsL (zl (weE cf n ln J) n) (fun j => gg (gN cf j) (cntC (gN cf) (gN cf j) j))) ∧ Below V.heap.size V w' := by
  have hsh : ∃ ao c, v = .slice ao J c := by obtain ⟨a_, c_, e_, _⟩ := hL.shape; exact ⟨a_, c_, e_⟩
  have hlf : ∀ j, j < J → -9223372036854775808 ≤ (fun j => (ln j : Int)) j ∧ (fun j => (ln j : Int)) j < 9223372036854775808 := fun j hj => by have h_ := sumN_at (r := ln) hj; show _ ≤ (ln j : Int) ∧ (ln j : Int) < _; omega
  go_enter Try.func22, Try.ntmps22
  refine wp_seq ?_
  refine wp_region_sqK 49 [(0, 4), (1, 5)] (fun i_ => match i_ with | 0 => .slice none 0 0 | 1 => .int .i64 ((0 : Nat) : Int) | _ => undef) rfl (by kernel_rfl) (by decide) (by decide) ?_ ?_
  · intro i_ hi_ a hf hv hn
    match i_, hi_ with
    | 0, _ => exact stepV rfl rfl (execAsgB rfl rfl) ⟨⟨_, rfl, rfl⟩, rfl⟩
    | 1, _ => exact stepV rfl rfl (execAsgB rfl rfl) ⟨⟨_, rfl, rfl⟩, rfl⟩
    | k_ + 2, h_ => exact absurd h_ (by simp)
  intro a h1 h2 h3 h4
  have t0 : a.eval (.tmp 0) = u0 := (h3 0 (by decide)).trans rfl
  have t1 : a.eval (.tmp 1) = v := (h3 1 (by decide)).trans rfl
  have A : a.tmps.size = 49 ∧ a.defers = [] := ⟨h1, h2⟩
  have BW : Below V.heap.size V V := Below.refl _ _
  clear h1 h2 h3 h4
  have BB := BW
  refine wp_seq ?_
  refine wp_seq ?_
  cases hst : stQ cf n (fun j => (ln j : Int)) J with
  | false =>
    refine wp_region_sq (σ := Value) 49 [(0, 10), (1, 11), (2, 12), (3, 13), (4, 14)] (fun j_ s X => match j_ with | 0 => Below V.heap.size V X | 1 => Below V.heap.size V X | 2 => Below V.heap.size V X | 3 => Below V.heap.size V X ∧ (SliceI X s (J) (fun j => (ln j : Int))) | 4 => Below V.heap.size V X ∧ (SliceI X s (J) (fun j => (ln j : Int))) | _ => Below V.heap.size V X ∧ (SliceI X s (J) (fun j => (ln j : Int)))) (fun s => fun i_ => match i_ with | 0 => u0 | 1 => v | 2 => s | 3 => .bool false | 4 => .bool true | _ => undef) undef A.1 (by kernel_rfl) (by decide) (by decide) (BB) ?_ ?_
    · intro i_ hi_ s a X hf hv hn hS
      match i_, hi_ with
      | 0, _ => exact stepV rfl rfl (execMvB rfl ((hf 0 (by decide)).trans t0)) ⟨s, ⟨_, rfl, rfl⟩, hS, fun _ _ => rfl⟩
      | 1, _ => exact stepV rfl rfl (execMvB rfl ((hf 1 (by decide)).trans t1)) ⟨s, ⟨_, rfl, rfl⟩, hS, fun _ _ => rfl⟩
      | 2, _ =>
        refine stepC rfl rfl (execCall1 Try.func38 (by kernel_rfl) (by kernel_rfl) rfl (hv 1 (by decide) _ rfl _ rfl)) (plengthsS J x ln gg _ X (hL.on hS) hJ) fun e w' hh => ?_
        obtain ⟨r_, he, hk, hb⟩ := hh
        refine ⟨_, he, r_, ⟨_, rfl, rfl⟩, ⟨(hS).trans ((hb).mono (hS).size), own_ints hk hlf⟩, fun i hi => ?_⟩
        match i, hi with
        | 0, _ => rfl
        | 1, _ => rfl
        | n_ + 2, h_ => omega
      | 3, _ => exact stepC rfl rfl (execCall2 Try.func36 (by kernel_rfl) (by kernel_rfl) rfl (hv 0 (by decide) _ rfl _ rfl) (hv 2 (by decide) _ rfl _ rfl)) (hst ▸ pstands cf (fun j => (ln j : Int)) n J _ _ X (FJ.on hS.1) hn17 hS.2 (by omega) (fun _ _ => Int.natCast_nonneg _)) fun e w' hh => ⟨_, hh.1, s, ⟨_, rfl, rfl⟩, ⟨(hS.1).trans ((hh.2).mono (hS.1).size), (hS.2.on hh.2)⟩, fun _ _ => rfl⟩
      | 4, _ => exact stepV rfl rfl (execNot8 rfl (hv 3 (by decide) _ rfl _ rfl)) ⟨s, ⟨_, rfl, rfl⟩, hS, fun _ _ => rfl⟩
      | k_ + 5, h_ => exact absurd h_ (by simp)
    rintro v12 a X1 h1 h2 h3 h4 hS
    clear BB
    replace hS : Below V.heap.size V X1 ∧ (SliceI X1 v12 (J) (fun j => (ln j : Int))) := hS
    obtain ⟨BB, FT⟩ := hS
    replace t0 := (h3 0 (by decide)).trans t0
    replace t1 := (h3 1 (by decide)).trans t1
    have t14 : a.eval (.tmp 14) = .bool true := h4 4 _ rfl _ rfl
    replace A := (⟨h1, h2.trans A.2⟩ : a.tmps.size = 49 ∧ a.defers = [])
    clear h1 h2 h3 h4
    clear FT
    refine wp_cond_true t14 ?_
    refine wp_seq ?_
    refine wp_region_sq (σ := Unit) 49 [(0, 4), (1, 5)] (fun j_ s X => match j_ with | 0 => Below V.heap.size V X | 1 => Below V.heap.size V X | _ => Below V.heap.size V X) (fun s => fun i_ => match i_ with | 0 => .slice none 0 0 | 1 => .int .i64 ((2 : Nat) : Int) | _ => undef) () A.1 (by kernel_rfl) (by decide) (by decide) (BB) ?_ ?_
    · intro i_ hi_ s a X hf hv hn hS
      match i_, hi_ with
      | 0, _ => exact stepV rfl rfl (execAsgB rfl rfl) ⟨s, ⟨_, rfl, rfl⟩, hS, fun _ _ => rfl⟩
      | 1, _ => exact stepV rfl rfl (execAsgB rfl rfl) ⟨s, ⟨_, rfl, rfl⟩, hS, fun _ _ => rfl⟩
      | k_ + 2, h_ => exact absurd h_ (by simp)
    rintro _ a X2 h1 h2 h3 h4 hS
    clear BB
    replace hS : Below V.heap.size V X2 := hS
    have BB := hS
    clear hS
    have t4 : a.eval (.tmp 4) = .slice none 0 0 := h4 0 _ rfl _ rfl
    have t5 : a.eval (.tmp 5) = .int .i64 ((2 : Nat) : Int) := h4 1 _ rfl _ rfl
    replace A := (⟨h1, h2.trans A.2⟩ : a.tmps.size = 49 ∧ a.defers = [])
    clear h1 h2 h3 h4
    clear t0 t1
    have hE : weE cf n ln J = 2 := if_neg (by rw [hst]; decide)
    rw [hE, zl_no (by decide)]
    refine wp_ret ?_
    repeat (first | with_reducible refine ret_in ?_ | with_reducible refine ret_then ?_)
    refine bodyPost_ret (results_tmp2 rfl _ _ _) A.2 ⟨_, ?_, World.ownsRow_nil _ _ _ _, BB⟩
    show Ending.returned (.tuple #[a.eval (.tmp 4), a.eval (.tmp 5)]) = _
    rw [t4, t5]
  | true =>
    refine wp_region_sq (σ := Value) 49 [(0, 10), (1, 11), (2, 12), (3, 13), (4, 14)] (fun j_ s X => match j_ with | 0 => Below V.heap.size V X | 1 => Below V.heap.size V X | 2 => Below V.heap.size V X | 3 => Below V.heap.size V X ∧ (SliceI X s (J) (fun j => (ln j : Int))) | 4 => Below V.heap.size V X ∧ (SliceI X s (J) (fun j => (ln j : Int))) | _ => Below V.heap.size V X ∧ (SliceI X s (J) (fun j => (ln j : Int)))) (fun s => fun i_ => match i_ with | 0 => u0 | 1 => v | 2 => s | 3 => .bool true | 4 => .bool false | _ => undef) undef A.1 (by kernel_rfl) (by decide) (by decide) (BB) ?_ ?_
    · intro i_ hi_ s a X hf hv hn hS
      match i_, hi_ with
      | 0, _ => exact stepV rfl rfl (execMvB rfl ((hf 0 (by decide)).trans t0)) ⟨s, ⟨_, rfl, rfl⟩, hS, fun _ _ => rfl⟩
      | 1, _ => exact stepV rfl rfl (execMvB rfl ((hf 1 (by decide)).trans t1)) ⟨s, ⟨_, rfl, rfl⟩, hS, fun _ _ => rfl⟩
      | 2, _ =>
        refine stepC rfl rfl (execCall1 Try.func38 (by kernel_rfl) (by kernel_rfl) rfl (hv 1 (by decide) _ rfl _ rfl)) (plengthsS J x ln gg _ X (hL.on hS) hJ) fun e w' hh => ?_
        obtain ⟨r_, he, hk, hb⟩ := hh
        refine ⟨_, he, r_, ⟨_, rfl, rfl⟩, ⟨(hS).trans ((hb).mono (hS).size), own_ints hk hlf⟩, fun i hi => ?_⟩
        match i, hi with
        | 0, _ => rfl
        | 1, _ => rfl
        | n_ + 2, h_ => omega
      | 3, _ => exact stepC rfl rfl (execCall2 Try.func36 (by kernel_rfl) (by kernel_rfl) rfl (hv 0 (by decide) _ rfl _ rfl) (hv 2 (by decide) _ rfl _ rfl)) (hst ▸ pstands cf (fun j => (ln j : Int)) n J _ _ X (FJ.on hS.1) hn17 hS.2 (by omega) (fun _ _ => Int.natCast_nonneg _)) fun e w' hh => ⟨_, hh.1, s, ⟨_, rfl, rfl⟩, ⟨(hS.1).trans ((hh.2).mono (hS.1).size), (hS.2.on hh.2)⟩, fun _ _ => rfl⟩
      | 4, _ => exact stepV rfl rfl (execNot8 rfl (hv 3 (by decide) _ rfl _ rfl)) ⟨s, ⟨_, rfl, rfl⟩, hS, fun _ _ => rfl⟩
      | k_ + 5, h_ => exact absurd h_ (by simp)
    rintro v12 a X1 h1 h2 h3 h4 hS
    clear BB
    replace hS : Below V.heap.size V X1 ∧ (SliceI X1 v12 (J) (fun j => (ln j : Int))) := hS
    obtain ⟨BB, FT⟩ := hS
    replace t0 := (h3 0 (by decide)).trans t0
    replace t1 := (h3 1 (by decide)).trans t1
    have t14 : a.eval (.tmp 14) = .bool false := h4 4 _ rfl _ rfl
    replace A := (⟨h1, h2.trans A.2⟩ : a.tmps.size = 49 ∧ a.defers = [])
    clear h1 h2 h3 h4
    clear FT
    refine wp_cond_false t14 ?_
    refine wp_skip ?_
    clear t14
    have hE : weE cf n ln J = 0 := if_pos hst
    rw [hE, zl_ok]
    have hpt : IsPat ln J n (gN cf) := stQ_pat hst
    have hnS : n = sumN ln J := stQ_len hst
    refine wp_seq ?_
    refine wp_region_sq (σ := Nat) 49 [(0, 15), (1, 16), (2, 17), (3, 6)] (fun j_ s X => match j_ with | 0 => Below V.heap.size V X | 1 => Below V.heap.size V X | 2 => Below V.heap.size V X | 3 => Below V.heap.size V X ∧ (X.ownsRow V.heap.size 9 1 (.slice (some ⟨s, 0, none⟩) n n) (n) (strsL (n) (fun j => if j < 0 then gg (gN cf j) (cntC (gN cf) (gN cf j) j) else ByteArray.empty))) ∧ (V.heap.size ≤ s) | _ => Below V.heap.size V X ∧ (X.ownsRow V.heap.size 9 1 (.slice (some ⟨s, 0, none⟩) n n) (n) (strsL (n) (fun j => if j < 0 then gg (gN cf j) (cntC (gN cf) (gN cf j) j) else ByteArray.empty))) ∧ (V.heap.size ≤ s)) (fun s => fun i_ => match i_ with | 0 => u0 | 1 => .int .i64 ((n : Nat) : Int) | 2 => .slice (some ⟨s, 0, none⟩) n n | 3 => .slice (some ⟨s, 0, none⟩) n n | _ => undef) 0 A.1 (by kernel_rfl) (by decide) (by decide) (BB) ?_ ?_
    · intro i_ hi_ s a X hf hv hn hS
      match i_, hi_ with
      | 0, _ => exact stepV rfl rfl (execMvB rfl ((hf 0 (by decide)).trans t0)) ⟨s, ⟨_, rfl, rfl⟩, hS, fun _ _ => rfl⟩
      | 1, _ => exact stepV rfl rfl (execLenI (len := n) rfl (hv 0 (by decide) _ rfl _ rfl) ((FJ.on hS)).shp) ⟨s, ⟨_, rfl, rfl⟩, hS, fun _ _ => rfl⟩
      | 2, _ =>
        refine stepV rfl rfl (execMkS rfl (hv 1 (by decide) _ rfl _ rfl) (hv 1 (by decide) _ rfl _ rfl) (by omega)) ⟨X.heap.size, ⟨_, rfl, rfl⟩, ⟨(hS).trans (((belNew X _)).mono (hS).size), ownD_base (own_mkS X n _ (by omega) (fun j_ _ => if_neg (Nat.not_lt_zero _))) (hS).size, (hS).size⟩, fun i hi => ?_⟩
        match i, hi with
        | 0, _ => rfl
        | 1, _ => rfl
        | n_ + 2, h_ => omega
      | 3, _ => exact stepV rfl rfl (execAsgB rfl (hv 2 (by decide) _ rfl _ rfl)) ⟨s, ⟨_, rfl, rfl⟩, hS, fun _ _ => rfl⟩
      | k_ + 4, h_ => exact absurd h_ (by simp)
    rintro g17 a X3 h1 h2 h3 h4 hS
    clear BB
    replace hS : Below V.heap.size V X3 ∧ (X3.ownsRow V.heap.size 9 1 (.slice (some ⟨g17, 0, none⟩) n n) (n) (strsL (n) (fun j => if j < 0 then gg (gN cf j) (cntC (gN cf) (gN cf j) j) else ByteArray.empty))) ∧ (V.heap.size ≤ g17) := hS
    obtain ⟨BB, FO, Fg⟩ := hS
    replace t0 := (h3 0 (by decide)).trans t0
    replace t1 := (h3 1 (by decide)).trans t1
    have t6 : a.eval (.tmp 6) = .slice (some ⟨g17, 0, none⟩) n n := h4 3 _ rfl _ rfl
    replace A := (⟨h1, h2.trans A.2⟩ : a.tmps.size = 49 ∧ a.defers = [])
    clear h1 h2 h3 h4
    refine wp_seq ?_
    refine wp_region_sq (σ := Nat) 49 [(0, 18), (1, 19), (2, 20), (3, 7)] (fun j_ s X => match j_ with | 0 => Below V.heap.size V X ∧ (X.ownsRow V.heap.size 9 1 (.slice (some ⟨g17, 0, none⟩) n n) (n) (strsL (n) (fun j => if j < 0 then gg (gN cf j) (cntC (gN cf) (gN cf j) j) else ByteArray.empty))) | 1 => Below V.heap.size V X ∧ (X.ownsRow V.heap.size 9 1 (.slice (some ⟨g17, 0, none⟩) n n) (n) (strsL (n) (fun j => if j < 0 then gg (gN cf j) (cntC (gN cf) (gN cf j) j) else ByteArray.empty))) | 2 => Below V.heap.size V X ∧ (X.ownsRow V.heap.size 9 1 (.slice (some ⟨g17, 0, none⟩) n n) (n) (strsL (n) (fun j => if j < 0 then gg (gN cf j) (cntC (gN cf) (gN cf j) j) else ByteArray.empty))) | 3 => Below V.heap.size V X ∧ (X.ownsRow V.heap.size 9 1 (.slice (some ⟨g17, 0, none⟩) n n) (n) (strsL (n) (fun j => if j < 0 then gg (gN cf j) (cntC (gN cf) (gN cf j) j) else ByteArray.empty))) ∧ (X.ownsRow V.heap.size 3 1 (.slice (some ⟨s, 0, none⟩) J J) (J) (intsL (J) (fun j => (cntC (gN cf) j 0 : Int)))) ∧ (V.heap.size ≤ s) | _ => Below V.heap.size V X ∧ (X.ownsRow V.heap.size 9 1 (.slice (some ⟨g17, 0, none⟩) n n) (n) (strsL (n) (fun j => if j < 0 then gg (gN cf j) (cntC (gN cf) (gN cf j) j) else ByteArray.empty))) ∧ (X.ownsRow V.heap.size 3 1 (.slice (some ⟨s, 0, none⟩) J J) (J) (intsL (J) (fun j => (cntC (gN cf) j 0 : Int)))) ∧ (V.heap.size ≤ s)) (fun s => fun i_ => match i_ with | 0 => v | 1 => .int .i64 ((J : Nat) : Int) | 2 => .slice (some ⟨s, 0, none⟩) J J | 3 => .slice (some ⟨s, 0, none⟩) J J | _ => undef) 0 A.1 (by kernel_rfl) (by decide) (by decide) ⟨BB, FO⟩ ?_ ?_
    · intro i_ hi_ s a X hf hv hn hS
      match i_, hi_ with
      | 0, _ => exact stepV rfl rfl (execMvB rfl ((hf 1 (by decide)).trans t1)) ⟨s, ⟨_, rfl, rfl⟩, hS, fun _ _ => rfl⟩
      | 1, _ => exact stepV rfl rfl (execLenLLS (len := J) rfl (hv 0 (by decide) _ rfl _ rfl) hsh) ⟨s, ⟨_, rfl, rfl⟩, hS, fun _ _ => rfl⟩
      | 2, _ =>
        refine stepV rfl rfl (execMkN rfl (hv 1 (by decide) _ rfl _ rfl) (hv 1 (by decide) _ rfl _ rfl) (by omega)) ⟨X.heap.size, ⟨_, rfl, rfl⟩, ⟨(hS.1).trans (((belNew X _)).mono (hS.1).size), (ownD_below hS.2 (belNew X _)), ownD_base (own_mkZ X J _ (by omega) (fun _ _ => rfl)) (hS.1).size, (hS.1).size⟩, fun i hi => ?_⟩
        match i, hi with
        | 0, _ => rfl
        | 1, _ => rfl
        | n_ + 2, h_ => omega
      | 3, _ => exact stepV rfl rfl (execAsgB rfl (hv 2 (by decide) _ rfl _ rfl)) ⟨s, ⟨_, rfl, rfl⟩, hS, fun _ _ => rfl⟩
      | k_ + 4, h_ => exact absurd h_ (by simp)
    rintro g20 a X4 h1 h2 h3 h4 hS
    clear BB
    clear FO
    replace hS : Below V.heap.size V X4 ∧ (X4.ownsRow V.heap.size 9 1 (.slice (some ⟨g17, 0, none⟩) n n) (n) (strsL (n) (fun j => if j < 0 then gg (gN cf j) (cntC (gN cf) (gN cf j) j) else ByteArray.empty))) ∧ (X4.ownsRow V.heap.size 3 1 (.slice (some ⟨g20, 0, none⟩) J J) (J) (intsL (J) (fun j => (cntC (gN cf) j 0 : Int)))) ∧ (V.heap.size ≤ g20) := hS
    obtain ⟨BB, FO, FX, Fh⟩ := hS
    replace t0 := (h3 0 (by decide)).trans t0
    replace t1 := (h3 1 (by decide)).trans t1
    replace t6 := (h3 6 (by decide)).trans t6
    have t7 : a.eval (.tmp 7) = .slice (some ⟨g20, 0, none⟩) J J := h4 3 _ rfl _ rfl
    replace A := (⟨h1, h2.trans A.2⟩ : a.tmps.size = 49 ∧ a.defers = [])
    clear h1 h2 h3 h4
    refine wp_seq ?_
    refine wp_seq ?_
    refine wp_region_sq (σ := Unit) 49 [(0, 21), (1, 22), (2, 23)] (fun j_ s X => match j_ with | 0 => Below V.heap.size V X ∧ (X.ownsRow V.heap.size 9 1 (.slice (some ⟨g17, 0, none⟩) n n) (n) (strsL (n) (fun j => if j < 0 then gg (gN cf j) (cntC (gN cf) (gN cf j) j) else ByteArray.empty))) ∧ (X.ownsRow V.heap.size 3 1 (.slice (some ⟨g20, 0, none⟩) J J) (J) (intsL (J) (fun j => (cntC (gN cf) j 0 : Int)))) | 1 => Below V.heap.size V X ∧ (X.ownsRow V.heap.size 9 1 (.slice (some ⟨g17, 0, none⟩) n n) (n) (strsL (n) (fun j => if j < 0 then gg (gN cf j) (cntC (gN cf) (gN cf j) j) else ByteArray.empty))) ∧ (X.ownsRow V.heap.size 3 1 (.slice (some ⟨g20, 0, none⟩) J J) (J) (intsL (J) (fun j => (cntC (gN cf) j 0 : Int)))) | 2 => Below V.heap.size V X ∧ (X.ownsRow V.heap.size 9 1 (.slice (some ⟨g17, 0, none⟩) n n) (n) (strsL (n) (fun j => if j < 0 then gg (gN cf j) (cntC (gN cf) (gN cf j) j) else ByteArray.empty))) ∧ (X.ownsRow V.heap.size 3 1 (.slice (some ⟨g20, 0, none⟩) J J) (J) (intsL (J) (fun j => (cntC (gN cf) j 0 : Int)))) | _ => Below V.heap.size V X ∧ (X.ownsRow V.heap.size 9 1 (.slice (some ⟨g17, 0, none⟩) n n) (n) (strsL (n) (fun j => if j < 0 then gg (gN cf j) (cntC (gN cf) (gN cf j) j) else ByteArray.empty))) ∧ (X.ownsRow V.heap.size 3 1 (.slice (some ⟨g20, 0, none⟩) J J) (J) (intsL (J) (fun j => (cntC (gN cf) j 0 : Int))))) (fun s => fun i_ => match i_ with | 0 => u0 | 1 => .int .i64 ((n : Nat) : Int) | 2 => .int .i64 ((0 : Nat) : Int) | _ => undef) () A.1 (by kernel_rfl) (by decide) (by decide) ⟨BB, FO, FX⟩ ?_ ?_
    · intro i_ hi_ s a X hf hv hn hS
      match i_, hi_ with
      | 0, _ => exact stepV rfl rfl (execMvB rfl ((hf 0 (by decide)).trans t0)) ⟨s, ⟨_, rfl, rfl⟩, hS, fun _ _ => rfl⟩
      | 1, _ => exact stepV rfl rfl (execLenI (len := n) rfl (hv 0 (by decide) _ rfl _ rfl) ((FJ.on hS.1)).shp) ⟨s, ⟨_, rfl, rfl⟩, hS, fun _ _ => rfl⟩
      | 2, _ => exact stepV rfl rfl (execMvB rfl rfl) ⟨s, ⟨_, rfl, rfl⟩, hS, fun _ _ => rfl⟩
      | k_ + 3, h_ => exact absurd h_ (by simp)
    rintro _ a X5 h1 h2 h3 h4 hS
    clear BB
    clear FO
    clear FX
    replace hS : Below V.heap.size V X5 ∧ (X5.ownsRow V.heap.size 9 1 (.slice (some ⟨g17, 0, none⟩) n n) (n) (strsL (n) (fun j => if j < 0 then gg (gN cf j) (cntC (gN cf) (gN cf j) j) else ByteArray.empty))) ∧ (X5.ownsRow V.heap.size 3 1 (.slice (some ⟨g20, 0, none⟩) J J) (J) (intsL (J) (fun j => (cntC (gN cf) j 0 : Int)))) := hS
    obtain ⟨BB, FO, FX⟩ := hS
    replace t1 := (h3 1 (by decide)).trans t1
    replace t6 := (h3 6 (by decide)).trans t6
    replace t7 := (h3 7 (by decide)).trans t7
    have t21 : a.eval (.tmp 21) = u0 := h4 0 _ rfl _ rfl
    have t22 : a.eval (.tmp 22) = .int .i64 ((n : Nat) : Int) := h4 1 _ rfl _ rfl
    have t23 : a.eval (.tmp 23) = .int .i64 ((0 : Nat) : Int) := h4 2 _ rfl _ rfl
    replace A := (⟨h1, h2.trans A.2⟩ : a.tmps.size = 49 ∧ a.defers = [])
    clear h1 h2 h3 h4
    clear t0
    refine wp_block ?_
    refine wp_loop (fun a W => ∃ (i : Nat), i ≤ n ∧ (a.tmps.size = 49 ∧ a.defers = []) ∧ a.eval (.tmp 1) = v ∧ a.eval (.tmp 6) = .slice (some ⟨g17, 0, none⟩) n n ∧ a.eval (.tmp 7) = .slice (some ⟨g20, 0, none⟩) J J ∧ a.eval (.tmp 21) = u0 ∧ a.eval (.tmp 22) = .int .i64 ((n : Nat) : Int) ∧ a.eval (.tmp 23) = .int .i64 ((i : Nat) : Int) ∧ Below V.heap.size V W ∧ (W.ownsRow V.heap.size 9 1 (.slice (some ⟨g17, 0, none⟩) n n) (n) (strsL (n) (fun j => if j < i then gg (gN cf j) (cntC (gN cf) (gN cf j) j) else ByteArray.empty))) ∧ (W.ownsRow V.heap.size 3 1 (.slice (some ⟨g20, 0, none⟩) J J) (J) (intsL (J) (fun j => (cntC (gN cf) j i : Int))))) (fun a _ => n - (intOf (a.eval (.tmp 23))).toNat) ⟨0, Nat.zero_le _, A, t1, t6, t7, t21, t22, t23, BB, FO, FX⟩ ?_
    clear A t1 t6 t7 t21 t22 t23 BB FO FX a
    rintro a XL6 ⟨i, hi, A, t1, t6, t7, t21, t22, t23, BB, FO, FX⟩
    have esi := t23
    refine wp_seq ?_
    refine wp_region_sq (σ := Unit) 49 [(0, 24)] (fun j_ s X => match j_ with | 0 => Below V.heap.size V X ∧ (X.ownsRow V.heap.size 9 1 (.slice (some ⟨g17, 0, none⟩) n n) (n) (strsL (n) (fun j => if j < i then gg (gN cf j) (cntC (gN cf) (gN cf j) j) else ByteArray.empty))) ∧ (X.ownsRow V.heap.size 3 1 (.slice (some ⟨g20, 0, none⟩) J J) (J) (intsL (J) (fun j => (cntC (gN cf) j i : Int)))) | _ => Below V.heap.size V X ∧ (X.ownsRow V.heap.size 9 1 (.slice (some ⟨g17, 0, none⟩) n n) (n) (strsL (n) (fun j => if j < i then gg (gN cf j) (cntC (gN cf) (gN cf j) j) else ByteArray.empty))) ∧ (X.ownsRow V.heap.size 3 1 (.slice (some ⟨g20, 0, none⟩) J J) (J) (intsL (J) (fun j => (cntC (gN cf) j i : Int))))) (fun s => fun i_ => match i_ with | 0 => .bool (decide (i < n)) | _ => undef) () A.1 (by kernel_rfl) (by decide) (by decide) ⟨BB, FO, FX⟩ ?_ ?_
    · intro i_ hi_ s a X hf hv hn hS
      match i_, hi_ with
      | 0, _ => exact stepV rfl rfl (execLtW (p := i) (q := n) rfl ((hf 23 (by decide)).trans t23) ((hf 22 (by decide)).trans t22)) ⟨s, ⟨_, rfl, rfl⟩, hS, fun _ _ => rfl⟩
      | k_ + 1, h_ => exact absurd h_ (by simp)
    rintro _ a X6 h1 h2 h3 h4 hS
    clear BB
    clear FO
    clear FX
    replace hS : Below V.heap.size V X6 ∧ (X6.ownsRow V.heap.size 9 1 (.slice (some ⟨g17, 0, none⟩) n n) (n) (strsL (n) (fun j => if j < i then gg (gN cf j) (cntC (gN cf) (gN cf j) j) else ByteArray.empty))) ∧ (X6.ownsRow V.heap.size 3 1 (.slice (some ⟨g20, 0, none⟩) J J) (J) (intsL (J) (fun j => (cntC (gN cf) j i : Int)))) := hS
    obtain ⟨BB, FO, FX⟩ := hS
    replace t1 := (h3 1 (by decide)).trans t1
    replace t6 := (h3 6 (by decide)).trans t6
    replace t7 := (h3 7 (by decide)).trans t7
    replace t21 := (h3 21 (by decide)).trans t21
    replace t22 := (h3 22 (by decide)).trans t22
    replace t23 := (h3 23 (by decide)).trans t23
    have t24 : a.eval (.tmp 24) = .bool (decide (i < n)) := h4 0 _ rfl _ rfl
    replace A := (⟨h1, h2.trans A.2⟩ : a.tmps.size = 49 ∧ a.defers = [])
    clear h1 h2 h3 h4
    refine wp_seq ?_
    by_cases lti : i < n
    · rw [decide_eq_true lti] at t24
      refine wp_cond_true t24 ?_
      refine wp_skip ?_
      clear t24
      refine wp_seq ?_
      refine wp_block ?_
      obtain ⟨ccb, cco, ccc, ecc, hccb, hccc⟩ := open_sl FJ (by omega)
      have ccc : ∀ k, k < n → ∀ X, Below V.heap.size V X → X.cell? ⟨ccb, cco + k, none⟩ = some (.int .i64 ((cf) k)) := fun k hk X hX => by rw [cell_below hX hccb]; exact hccc k hk
      obtain ⟨c, ec0⟩ : ∃ c : Nat, cf i = c := ⟨(cf i).toNat, by have := ((stQ_iff.1 hst).1 i lti).1; omega⟩
      have ec : gN cf i = c := by show (cf i).toNat = c; omega
      have hcJ : c < J := by rw [← ec]; exact hpt.lt i lti
      obtain ⟨q_, eq⟩ : ∃ q_, cntC (gN cf) c i = q_ := ⟨_, rfl⟩
      have hq : q_ < ln c := by have h_ := hpt.vis lti; rw [ec, eq] at h_; exact h_
      have hqn := cnt_le (gN cf) c i
      rw [eq] at hqn
      obtain ⟨vb, vo, vc, ev, hvb, hvc⟩ := hL.at (show 0 < J by omega)
      have cV : ∀ X, Below V.heap.size V X → X.cell? ⟨vb, vo + c, none⟩ = some (x c) := fun X hX => by rw [cell_below hX hvb]; exact hvc c hcJ
      obtain ⟨xb, xo, xc, ex, hxb, hxc⟩ := open_ss (hL.lists c hcJ) (show 0 < ln c by omega)
      have cX : ∀ X, Below V.heap.size V X → X.cell? ⟨xb, xo + q_, none⟩ = some (.string (gg c q_)) := fun X hX => by rw [cell_below hX hxb]; exact hxc q_ hq
      refine wp_seq ?_
      refine wp_region_sq (σ := Unit) 49 [(0, 25), (1, 26), (2, 27), (3, 8), (4, 9)] (fun j_ s X => match j_ with | 0 => Below V.heap.size V X ∧ (X.ownsRow V.heap.size 9 1 (.slice (some ⟨g17, 0, none⟩) n n) (n) (strsL (n) (fun j => if j < i then gg (gN cf j) (cntC (gN cf) (gN cf j) j) else ByteArray.empty))) ∧ (X.ownsRow V.heap.size 3 1 (.slice (some ⟨g20, 0, none⟩) J J) (J) (intsL (J) (fun j => (cntC (gN cf) j i : Int)))) | 1 => Below V.heap.size V X ∧ (X.ownsRow V.heap.size 9 1 (.slice (some ⟨g17, 0, none⟩) n n) (n) (strsL (n) (fun j => if j < i then gg (gN cf j) (cntC (gN cf) (gN cf j) j) else ByteArray.empty))) ∧ (X.ownsRow V.heap.size 3 1 (.slice (some ⟨g20, 0, none⟩) J J) (J) (intsL (J) (fun j => (cntC (gN cf) j i : Int)))) | 2 => Below V.heap.size V X ∧ (X.ownsRow V.heap.size 9 1 (.slice (some ⟨g17, 0, none⟩) n n) (n) (strsL (n) (fun j => if j < i then gg (gN cf j) (cntC (gN cf) (gN cf j) j) else ByteArray.empty))) ∧ (X.ownsRow V.heap.size 3 1 (.slice (some ⟨g20, 0, none⟩) J J) (J) (intsL (J) (fun j => (cntC (gN cf) j i : Int)))) | 3 => Below V.heap.size V X ∧ (X.ownsRow V.heap.size 9 1 (.slice (some ⟨g17, 0, none⟩) n n) (n) (strsL (n) (fun j => if j < i then gg (gN cf j) (cntC (gN cf) (gN cf j) j) else ByteArray.empty))) ∧ (X.ownsRow V.heap.size 3 1 (.slice (some ⟨g20, 0, none⟩) J J) (J) (intsL (J) (fun j => (cntC (gN cf) j i : Int)))) | 4 => Below V.heap.size V X ∧ (X.ownsRow V.heap.size 9 1 (.slice (some ⟨g17, 0, none⟩) n n) (n) (strsL (n) (fun j => if j < i then gg (gN cf j) (cntC (gN cf) (gN cf j) j) else ByteArray.empty))) ∧ (X.ownsRow V.heap.size 3 1 (.slice (some ⟨g20, 0, none⟩) J J) (J) (intsL (J) (fun j => (cntC (gN cf) j i : Int)))) | _ => Below V.heap.size V X ∧ (X.ownsRow V.heap.size 9 1 (.slice (some ⟨g17, 0, none⟩) n n) (n) (strsL (n) (fun j => if j < i then gg (gN cf j) (cntC (gN cf) (gN cf j) j) else ByteArray.empty))) ∧ (X.ownsRow V.heap.size 3 1 (.slice (some ⟨g20, 0, none⟩) J J) (J) (intsL (J) (fun j => (cntC (gN cf) j i : Int))))) (fun s => fun i_ => match i_ with | 0 => .int .i64 ((i : Nat) : Int) | 1 => .pointer (some ⟨ccb, cco + i, none⟩) | 2 => .int .i64 ((c : Nat) : Int) | 3 => .int .i64 ((i : Nat) : Int) | 4 => .int .i64 ((c : Nat) : Int) | _ => undef) () A.1 (by kernel_rfl) (by decide) (by decide) ⟨BB, FO, FX⟩ ?_ ?_
      · intro i_ hi_ s a X hf hv hn hS
        match i_, hi_ with
        | 0, _ => exact stepV rfl rfl (execMvB rfl ((hf 23 (by decide)).trans t23)) ⟨s, ⟨_, rfl, rfl⟩, hS, fun _ _ => rfl⟩
        | 1, _ => exact stepV rfl rfl (execIdxN (k := i) rfl (((hf 21 (by decide)).trans t21).trans ecc) ((hf 23 (by decide)).trans t23) lti) ⟨s, ⟨_, rfl, rfl⟩, hS, fun _ _ => rfl⟩
        | 2, _ => exact stepV rfl rfl (execLd3 rfl (hv 1 (by decide) _ rfl _ rfl) ((ccc i lti X hS.1).trans (by rw [ec0]))) ⟨s, ⟨_, rfl, rfl⟩, hS, fun _ _ => rfl⟩
        | 3, _ => exact stepV rfl rfl (execAsgB rfl (hv 0 (by decide) _ rfl _ rfl)) ⟨s, ⟨_, rfl, rfl⟩, hS, fun _ _ => rfl⟩
        | 4, _ => exact stepV rfl rfl (execAsgB rfl (hv 2 (by decide) _ rfl _ rfl)) ⟨s, ⟨_, rfl, rfl⟩, hS, fun _ _ => rfl⟩
        | k_ + 5, h_ => exact absurd h_ (by simp)
      rintro _ a X7 h1 h2 h3 h4 hS
      clear BB
      clear FO
      clear FX
      replace hS : Below V.heap.size V X7 ∧ (X7.ownsRow V.heap.size 9 1 (.slice (some ⟨g17, 0, none⟩) n n) (n) (strsL (n) (fun j => if j < i then gg (gN cf j) (cntC (gN cf) (gN cf j) j) else ByteArray.empty))) ∧ (X7.ownsRow V.heap.size 3 1 (.slice (some ⟨g20, 0, none⟩) J J) (J) (intsL (J) (fun j => (cntC (gN cf) j i : Int)))) := hS
      obtain ⟨BB, FO, FX⟩ := hS
      replace t1 := (h3 1 (by decide)).trans t1
      replace t6 := (h3 6 (by decide)).trans t6
      replace t7 := (h3 7 (by decide)).trans t7
      replace t21 := (h3 21 (by decide)).trans t21
      replace t22 := (h3 22 (by decide)).trans t22
      replace t23 := (h3 23 (by decide)).trans t23
      have t8 : a.eval (.tmp 8) = .int .i64 ((i : Nat) : Int) := h4 3 _ rfl _ rfl
      have t9 : a.eval (.tmp 9) = .int .i64 ((c : Nat) : Int) := h4 4 _ rfl _ rfl
      replace A := (⟨h1, h2.trans A.2⟩ : a.tmps.size = 49 ∧ a.defers = [])
      clear h1 h2 h3 h4
      refine wp_seq ?_
      refine wp_region_stB (σ := Unit) 49 [(0, 28), (1, 29), (2, 30), (3, 31), (4, 32), (5, 33), (6, 34), (7, 35), (8, 36), (9, 37), (10, 38), (11, 39), (12, 40)] (fun l_ s X => Below V.heap.size V X ∧ (l_ 13 = false → (X.ownsRow V.heap.size 9 1 (.slice (some ⟨g17, 0, none⟩) n n) (n) (strsL (n) (fun j => if j < i then gg (gN cf j) (cntC (gN cf) (gN cf j) j) else ByteArray.empty)))) ∧ ((X.ownsRow V.heap.size 3 1 (.slice (some ⟨g20, 0, none⟩) J J) (J) (intsL (J) (fun j => (cntC (gN cf) j i : Int))))) ∧ (l_ 13 = true → (X.ownsRow V.heap.size 9 1 (.slice (some ⟨g17, 0, none⟩) n n) (n) (strsL (n) (fun j => if j < (i + 1) then gg (gN cf j) (cntC (gN cf) (gN cf j) j) else ByteArray.empty))))) (fun s => fun i_ => match i_ with | 0 => .slice (some ⟨g17, 0, none⟩) n n | 1 => .int .i64 ((i : Nat) : Int) | 2 => v | 3 => .int .i64 ((c : Nat) : Int) | 4 => .pointer (some ⟨vb, vo + c, none⟩) | 5 => x c | 6 => .slice (some ⟨g20, 0, none⟩) J J | 7 => .int .i64 ((c : Nat) : Int) | 8 => .pointer (some ⟨g20, 0 + c, none⟩) | 9 => .int .i64 ((q_ : Nat) : Int) | 10 => .pointer (some ⟨xb, xo + q_, none⟩) | 11 => .string (gg c q_) | 12 => .pointer (some ⟨g17, 0 + i, none⟩) | 13 => undef | _ => undef) () (by kernel_rfl) (by kernel_rfl) A.1 (by kernel_rfl) (by decide) (by decide) ⟨(BB.drew), (fun _ => (ownD_below FO (Below.refl _ _).drew)), ((ownD_below FX (Below.refl _ _).drew)), (fun q0_ => by cases q0_)⟩ ?_ ?_
      · intro i_ hi_ l_ s a X hl_ hf hdep hl2 hcl hno hT
        have up : ∀ j x, x ≠ j → updB l_ j x = l_ x := fun j x hj => by unfold updB; simp [hj]
        match i_, hi_ with
        | 0, _ => exact stepV rfl rfl (execMvB rfl ((hf 6 (by decide)).trans t6)) ⟨s, ⟨_, rfl, rfl⟩, ⟨hT.1, (fun q0_ => (hT.2.1 (by rw [up 0 13 (by decide)] at q0_; exact q0_))), (hT.2.2.1), (fun q0_ => absurd (hl_.symm.trans (hcl 13 _ rfl ((up 0 13 (by decide)).symm.trans q0_) 0 rfl)) (by decide))⟩, fun _ _ _ => rfl⟩
        | 1, _ => exact stepV rfl rfl (execMvB rfl ((hf 8 (by decide)).trans t8)) ⟨s, ⟨_, rfl, rfl⟩, ⟨hT.1, (fun q0_ => (hT.2.1 (by rw [up 1 13 (by decide)] at q0_; exact q0_))), (hT.2.2.1), (fun q0_ => absurd (hl_.symm.trans (hcl 13 _ rfl ((up 1 13 (by decide)).symm.trans q0_) 1 rfl)) (by decide))⟩, fun _ _ _ => rfl⟩
        | 2, _ => exact stepV rfl rfl (execMvB rfl ((hf 1 (by decide)).trans t1)) ⟨s, ⟨_, rfl, rfl⟩, ⟨hT.1, (fun q0_ => (hT.2.1 (by rw [up 2 13 (by decide)] at q0_; exact q0_))), (hT.2.2.1), (fun q0_ => absurd (hl_.symm.trans (hcl 13 _ rfl ((up 2 13 (by decide)).symm.trans q0_) 2 rfl)) (by decide))⟩, fun _ _ _ => rfl⟩
        | 3, _ => exact stepV rfl rfl (execMvB rfl ((hf 9 (by decide)).trans t9)) ⟨s, ⟨_, rfl, rfl⟩, ⟨hT.1, (fun q0_ => (hT.2.1 (by rw [up 3 13 (by decide)] at q0_; exact q0_))), (hT.2.2.1), (fun q0_ => absurd (hl_.symm.trans (hcl 13 _ rfl ((up 3 13 (by decide)).symm.trans q0_) 3 rfl)) (by decide))⟩, fun _ _ _ => rfl⟩
        | 4, _ => exact stepV rfl rfl (execIdxLLS (k := c) rfl ((hdep _ rfl 2 rfl _ rfl _ rfl).trans ev) (hdep _ rfl 3 rfl _ rfl _ rfl) hcJ) ⟨s, ⟨_, rfl, rfl⟩, ⟨hT.1, (fun q0_ => (hT.2.1 (by rw [up 4 13 (by decide)] at q0_; exact q0_))), (hT.2.2.1), (fun q0_ => absurd (hl_.symm.trans (hcl 13 _ rfl ((up 4 13 (by decide)).symm.trans q0_) 4 rfl)) (by decide))⟩, fun _ _ _ => rfl⟩
        | 5, _ => exact stepV rfl rfl (execLdLLS (v := x c) rfl (hdep _ rfl 4 rfl _ rfl _ rfl) (cV X hT.1)) ⟨s, ⟨_, rfl, rfl⟩, ⟨hT.1, (fun q0_ => (hT.2.1 (by rw [up 5 13 (by decide)] at q0_; exact q0_))), (hT.2.2.1), (fun q0_ => absurd (hl_.symm.trans (hcl 13 _ rfl ((up 5 13 (by decide)).symm.trans q0_) 5 rfl)) (by decide))⟩, fun _ _ _ => rfl⟩
        | 6, _ => exact stepV rfl rfl (execMvB rfl ((hf 7 (by decide)).trans t7)) ⟨s, ⟨_, rfl, rfl⟩, ⟨hT.1, (fun q0_ => (hT.2.1 (by rw [up 6 13 (by decide)] at q0_; exact q0_))), (hT.2.2.1), (fun q0_ => absurd (hl_.symm.trans (hcl 13 _ rfl ((up 6 13 (by decide)).symm.trans q0_) 6 rfl)) (by decide))⟩, fun _ _ _ => rfl⟩
        | 7, _ => exact stepV rfl rfl (execMvB rfl ((hf 9 (by decide)).trans t9)) ⟨s, ⟨_, rfl, rfl⟩, ⟨hT.1, (fun q0_ => (hT.2.1 (by rw [up 7 13 (by decide)] at q0_; exact q0_))), (hT.2.2.1), (fun q0_ => absurd (hl_.symm.trans (hcl 13 _ rfl ((up 7 13 (by decide)).symm.trans q0_) 7 rfl)) (by decide))⟩, fun _ _ _ => rfl⟩
        | 8, _ => exact stepV rfl rfl (execIdxN (k := c) rfl (hdep _ rfl 6 rfl _ rfl _ rfl) (hdep _ rfl 7 rfl _ rfl _ rfl) hcJ) ⟨s, ⟨_, rfl, rfl⟩, ⟨hT.1, (fun q0_ => (hT.2.1 (by rw [up 8 13 (by decide)] at q0_; exact q0_))), (hT.2.2.1), (fun q0_ => absurd (hl_.symm.trans (hcl 13 _ rfl ((up 8 13 (by decide)).symm.trans q0_) 8 rfl)) (by decide))⟩, fun _ _ _ => rfl⟩
        | 9, _ => exact stepV rfl rfl (execLd3 rfl (hdep _ rfl 8 rfl _ rfl _ rfl) ((own_cellI hT.2.2.1 hcJ).1.trans (by rw [eq]))) ⟨s, ⟨_, rfl, rfl⟩, ⟨hT.1, (fun q0_ => (hT.2.1 (by rw [up 9 13 (by decide)] at q0_; exact q0_))), (hT.2.2.1), (fun q0_ => absurd (hl_.symm.trans (hcl 13 _ rfl ((up 9 13 (by decide)).symm.trans q0_) 9 rfl)) (by decide))⟩, fun _ _ _ => rfl⟩
        | 10, _ => exact stepV rfl rfl (execIdxS (k := q_) rfl ((hdep _ rfl 5 rfl _ rfl _ rfl).trans ex) (hdep _ rfl 9 rfl _ rfl _ rfl) hq) ⟨s, ⟨_, rfl, rfl⟩, ⟨hT.1, (fun q0_ => (hT.2.1 (by rw [up 10 13 (by decide)] at q0_; exact q0_))), (hT.2.2.1), (fun q0_ => absurd (hl_.symm.trans (hcl 13 _ rfl ((up 10 13 (by decide)).symm.trans q0_) 10 rfl)) (by decide))⟩, fun _ _ _ => rfl⟩
        | 11, _ => exact stepV rfl rfl (execLdS rfl (hdep _ rfl 10 rfl _ rfl _ rfl) (cX X hT.1)) ⟨s, ⟨_, rfl, rfl⟩, ⟨hT.1, (fun q0_ => (hT.2.1 (by rw [up 11 13 (by decide)] at q0_; exact q0_))), (hT.2.2.1), (fun q0_ => absurd (hl_.symm.trans (hcl 13 _ rfl ((up 11 13 (by decide)).symm.trans q0_) 11 rfl)) (by decide))⟩, fun _ _ _ => rfl⟩
        | 12, _ => exact stepV rfl rfl (execIdxS (k := i) rfl (hdep _ rfl 0 rfl _ rfl _ rfl) (hdep _ rfl 1 rfl _ rfl _ rfl) lti) ⟨s, ⟨_, rfl, rfl⟩, ⟨hT.1, (fun q0_ => (hT.2.1 (by rw [up 12 13 (by decide)] at q0_; exact q0_))), (hT.2.2.1), (fun q0_ => absurd (hl_.symm.trans (hcl 13 _ rfl ((up 12 13 (by decide)).symm.trans q0_) 12 rfl)) (by decide))⟩, fun _ _ _ => rfl⟩
        | 13, _ =>
          obtain ⟨hc_, hf_⟩ := own_cellS (hT.2.1 hl_) lti
          refine stepS rfl rfl (execStS rfl (hdep _ rfl 12 rfl _ rfl _ rfl) (hdep _ rfl 11 rfl _ rfl _ rfl) hc_ hf_) ⟨s, ⟨_, rfl, rfl⟩, ⟨(hT.1).setCell Fg _, (fun q0_ => absurd q0_ (by unfold updB; simp)), ((own_offT hT.2.2.1 (own_cur (hT.2.1 hl_)).choose_spec.1 (by decide))), (fun _q0_ => own_fillS (F := fun j => gg (gN cf j) (cntC (gN cf) (gN cf j) j)) (hT.2.1 hl_) (by show _ = gg (gN cf i) (cntC (gN cf) (gN cf i) i); rw [ec, eq]))⟩, fun i hi hli => ?_⟩
          match i, hi with
          | 0, _ => rfl
          | 1, _ => rfl
          | 2, _ => rfl
          | 3, _ => rfl
          | 4, _ => rfl
          | 5, _ => rfl
          | 6, _ => rfl
          | 7, _ => rfl
          | 8, _ => rfl
          | 9, _ => rfl
          | 10, _ => rfl
          | 11, _ => rfl
          | 12, _ => rfl
          | 13, _ => exact absurd (hl_.symm.trans hli) (by decide)
          | k_ + 14, h_ => exact absurd h_ (by simp)
        | k_ + 14, h_ => exact absurd h_ (by simp)
      rintro l_ _ a X8 h1 h2 h3 h4 hall hT
      clear BB
      clear FO
      clear FX
      obtain ⟨BB, FO, FX, FO2⟩ := hT
      clear FO
      replace FX : (X8.ownsRow V.heap.size 3 1 (.slice (some ⟨g20, 0, none⟩) J J) (J) (intsL (J) (fun j => (cntC (gN cf) j i : Int)))) := FX
      replace FO2 : (X8.ownsRow V.heap.size 9 1 (.slice (some ⟨g17, 0, none⟩) n n) (n) (strsL (n) (fun j => if j < (i + 1) then gg (gN cf j) (cntC (gN cf) (gN cf j) j) else ByteArray.empty))) := FO2 (hall 13 (by decide))
      clear hall
      replace t1 := (h3 1 (by decide)).trans t1
      replace t6 := (h3 6 (by decide)).trans t6
      replace t7 := (h3 7 (by decide)).trans t7
      replace t21 := (h3 21 (by decide)).trans t21
      replace t22 := (h3 22 (by decide)).trans t22
      replace t23 := (h3 23 (by decide)).trans t23
      replace t9 := (h3 9 (by decide)).trans t9
      replace A := (⟨h1, h2.trans A.2⟩ : a.tmps.size = 49 ∧ a.defers = [])
      clear h1 h2 h3 h4
      clear t8
      refine wp_region_sq (σ := Unit) 49 [(0, 41), (1, 42), (2, 43), (3, 44), (4, 45), (5, 46)] (fun j_ s X => match j_ with | 0 => Below V.heap.size V X ∧ (X.ownsRow V.heap.size 3 1 (.slice (some ⟨g20, 0, none⟩) J J) (J) (intsL (J) (fun j => (cntC (gN cf) j i : Int)))) ∧ (X.ownsRow V.heap.size 9 1 (.slice (some ⟨g17, 0, none⟩) n n) (n) (strsL (n) (fun j => if j < (i + 1) then gg (gN cf j) (cntC (gN cf) (gN cf j) j) else ByteArray.empty))) | 1 => Below V.heap.size V X ∧ (X.ownsRow V.heap.size 3 1 (.slice (some ⟨g20, 0, none⟩) J J) (J) (intsL (J) (fun j => (cntC (gN cf) j i : Int)))) ∧ (X.ownsRow V.heap.size 9 1 (.slice (some ⟨g17, 0, none⟩) n n) (n) (strsL (n) (fun j => if j < (i + 1) then gg (gN cf j) (cntC (gN cf) (gN cf j) j) else ByteArray.empty))) | 2 => Below V.heap.size V X ∧ (X.ownsRow V.heap.size 3 1 (.slice (some ⟨g20, 0, none⟩) J J) (J) (intsL (J) (fun j => (cntC (gN cf) j i : Int)))) ∧ (X.ownsRow V.heap.size 9 1 (.slice (some ⟨g17, 0, none⟩) n n) (n) (strsL (n) (fun j => if j < (i + 1) then gg (gN cf j) (cntC (gN cf) (gN cf j) j) else ByteArray.empty))) | 3 => Below V.heap.size V X ∧ (X.ownsRow V.heap.size 3 1 (.slice (some ⟨g20, 0, none⟩) J J) (J) (intsL (J) (fun j => (cntC (gN cf) j i : Int)))) ∧ (X.ownsRow V.heap.size 9 1 (.slice (some ⟨g17, 0, none⟩) n n) (n) (strsL (n) (fun j => if j < (i + 1) then gg (gN cf j) (cntC (gN cf) (gN cf j) j) else ByteArray.empty))) | 4 => Below V.heap.size V X ∧ (X.ownsRow V.heap.size 3 1 (.slice (some ⟨g20, 0, none⟩) J J) (J) (intsL (J) (fun j => (cntC (gN cf) j i : Int)))) ∧ (X.ownsRow V.heap.size 9 1 (.slice (some ⟨g17, 0, none⟩) n n) (n) (strsL (n) (fun j => if j < (i + 1) then gg (gN cf j) (cntC (gN cf) (gN cf j) j) else ByteArray.empty))) | 5 => Below V.heap.size V X ∧ (X.ownsRow V.heap.size 3 1 (.slice (some ⟨g20, 0, none⟩) J J) (J) (intsL (J) (fun j => (cntC (gN cf) j i : Int)))) ∧ (X.ownsRow V.heap.size 9 1 (.slice (some ⟨g17, 0, none⟩) n n) (n) (strsL (n) (fun j => if j < (i + 1) then gg (gN cf j) (cntC (gN cf) (gN cf j) j) else ByteArray.empty))) | 6 => Below V.heap.size V X ∧ (X.ownsRow V.heap.size 3 1 (.slice (some ⟨g20, 0, none⟩) J J) (J) (intsL (J) (fun j => (cntC (gN cf) j i : Int)))) ∧ (X.ownsRow V.heap.size 9 1 (.slice (some ⟨g17, 0, none⟩) n n) (n) (strsL (n) (fun j => if j < (i + 1) then gg (gN cf j) (cntC (gN cf) (gN cf j) j) else ByteArray.empty))) | _ => Below V.heap.size V X ∧ (X.ownsRow V.heap.size 9 1 (.slice (some ⟨g17, 0, none⟩) n n) (n) (strsL (n) (fun j => if j < (i + 1) then gg (gN cf j) (cntC (gN cf) (gN cf j) j) else ByteArray.empty))) ∧ (X.ownsRow V.heap.size 3 1 (.slice (some ⟨g20, 0, none⟩) J J) (J) (intsL (J) (fun j => (cntC (gN cf) j (i + 1) : Int))))) (fun s => fun i_ => match i_ with | 0 => .slice (some ⟨g20, 0, none⟩) J J | 1 => .int .i64 ((c : Nat) : Int) | 2 => .pointer (some ⟨g20, 0 + c, none⟩) | 3 => .int .i64 ((q_ : Nat) : Int) | 4 => .int .i64 ((q_ + 1 : Nat) : Int) | 5 => .pointer (some ⟨g20, 0 + c, none⟩) | 6 => undef | _ => undef) () A.1 (by kernel_rfl) (by decide) (by decide) ⟨BB, FX, FO2⟩ ?_ ?_
      · intro i_ hi_ s a X hf hv hn hS
        match i_, hi_ with
        | 0, _ => exact stepV rfl rfl (execMvB rfl ((hf 7 (by decide)).trans t7)) ⟨s, ⟨_, rfl, rfl⟩, hS, fun _ _ => rfl⟩
        | 1, _ => exact stepV rfl rfl (execMvB rfl ((hf 9 (by decide)).trans t9)) ⟨s, ⟨_, rfl, rfl⟩, hS, fun _ _ => rfl⟩
        | 2, _ => exact stepV rfl rfl (execIdxN (k := c) rfl (hv 0 (by decide) _ rfl _ rfl) (hv 1 (by decide) _ rfl _ rfl) hcJ) ⟨s, ⟨_, rfl, rfl⟩, hS, fun _ _ => rfl⟩
        | 3, _ => exact stepV rfl rfl (execLd3 rfl (hv 2 (by decide) _ rfl _ rfl) ((own_cellI hS.2.1 hcJ).1.trans (by rw [eq]))) ⟨s, ⟨_, rfl, rfl⟩, hS, fun _ _ => rfl⟩
        | 4, _ => exact stepV rfl rfl (execAd8 (p := q_) (q := 1) rfl (hv 3 (by decide) _ rfl _ rfl) rfl (by omega)) ⟨s, ⟨_, rfl, rfl⟩, hS, fun _ _ => rfl⟩
        | 5, _ => exact stepV rfl rfl (execIdxN (k := c) rfl (hv 0 (by decide) _ rfl _ rfl) (hv 1 (by decide) _ rfl _ rfl) hcJ) ⟨s, ⟨_, rfl, rfl⟩, hS, fun _ _ => rfl⟩
        | 6, _ =>
          obtain ⟨hc_, hf_⟩ := own_cellI hS.2.1 hcJ
          refine stepS rfl rfl (execStI9 rfl (hv 5 (by decide) _ rfl _ rfl) (hv 4 (by decide) _ rfl _ rfl) hc_ hf_) ⟨s, ⟨_, rfl, rfl⟩, ⟨(hS.1).setCell Fh _, (own_offT hS.2.2 (own_cur hS.2.1).choose_spec.1 (by decide)), nx_set hS.2.1 ec eq⟩, fun i hi => ?_⟩
          match i, hi with
          | 0, _ => rfl
          | 1, _ => rfl
          | 2, _ => rfl
          | 3, _ => rfl
          | 4, _ => rfl
          | 5, _ => rfl
          | n_ + 6, h_ => omega
        | k_ + 7, h_ => exact absurd h_ (by simp)
      rintro _ a X9 h1 h2 h3 h4 hS
      clear BB
      clear FX
      clear FO2
      replace hS : Below V.heap.size V X9 ∧ (X9.ownsRow V.heap.size 9 1 (.slice (some ⟨g17, 0, none⟩) n n) (n) (strsL (n) (fun j => if j < (i + 1) then gg (gN cf j) (cntC (gN cf) (gN cf j) j) else ByteArray.empty))) ∧ (X9.ownsRow V.heap.size 3 1 (.slice (some ⟨g20, 0, none⟩) J J) (J) (intsL (J) (fun j => (cntC (gN cf) j (i + 1) : Int)))) := hS
      obtain ⟨BB, FO2, FX2⟩ := hS
      replace t1 := (h3 1 (by decide)).trans t1
      replace t6 := (h3 6 (by decide)).trans t6
      replace t7 := (h3 7 (by decide)).trans t7
      replace t21 := (h3 21 (by decide)).trans t21
      replace t22 := (h3 22 (by decide)).trans t22
      replace t23 := (h3 23 (by decide)).trans t23
      replace A := (⟨h1, h2.trans A.2⟩ : a.tmps.size = 49 ∧ a.defers = [])
      clear h1 h2 h3 h4
      clear t9
      refine wp_region_sq (σ := Unit) 49 [(0, 47), (1, 23)] (fun j_ s X => match j_ with | 0 => Below V.heap.size V X ∧ (X.ownsRow V.heap.size 9 1 (.slice (some ⟨g17, 0, none⟩) n n) (n) (strsL (n) (fun j => if j < (i + 1) then gg (gN cf j) (cntC (gN cf) (gN cf j) j) else ByteArray.empty))) ∧ (X.ownsRow V.heap.size 3 1 (.slice (some ⟨g20, 0, none⟩) J J) (J) (intsL (J) (fun j => (cntC (gN cf) j (i + 1) : Int)))) | 1 => Below V.heap.size V X ∧ (X.ownsRow V.heap.size 9 1 (.slice (some ⟨g17, 0, none⟩) n n) (n) (strsL (n) (fun j => if j < (i + 1) then gg (gN cf j) (cntC (gN cf) (gN cf j) j) else ByteArray.empty))) ∧ (X.ownsRow V.heap.size 3 1 (.slice (some ⟨g20, 0, none⟩) J J) (J) (intsL (J) (fun j => (cntC (gN cf) j (i + 1) : Int)))) | _ => Below V.heap.size V X ∧ (X.ownsRow V.heap.size 9 1 (.slice (some ⟨g17, 0, none⟩) n n) (n) (strsL (n) (fun j => if j < (i + 1) then gg (gN cf j) (cntC (gN cf) (gN cf j) j) else ByteArray.empty))) ∧ (X.ownsRow V.heap.size 3 1 (.slice (some ⟨g20, 0, none⟩) J J) (J) (intsL (J) (fun j => (cntC (gN cf) j (i + 1) : Int))))) (fun s => fun i_ => match i_ with | 0 => .int .i64 ((i + 1 : Nat) : Int) | 1 => .int .i64 ((i + 1 : Nat) : Int) | _ => undef) () A.1 (by kernel_rfl) (by decide) (by decide) ⟨BB, FO2, FX2⟩ ?_ ?_
      · intro i_ hi_ s a X hf hv hn hS
        match i_, hi_ with
        | 0, _ => exact stepV rfl rfl (execAd8 (p := i) (q := 1) rfl ((hn 1 (by decide) _ rfl _ rfl).trans t23) rfl (by omega)) ⟨s, ⟨_, rfl, rfl⟩, hS, fun _ _ => rfl⟩
        | 1, _ => exact stepV rfl rfl (execMvB rfl (hv 0 (by decide) _ rfl _ rfl)) ⟨s, ⟨_, rfl, rfl⟩, hS, fun _ _ => rfl⟩
        | k_ + 2, h_ => exact absurd h_ (by simp)
      rintro _ a X10 h1 h2 h3 h4 hS
      clear BB
      clear FO2
      clear FX2
      replace hS : Below V.heap.size V X10 ∧ (X10.ownsRow V.heap.size 9 1 (.slice (some ⟨g17, 0, none⟩) n n) (n) (strsL (n) (fun j => if j < (i + 1) then gg (gN cf j) (cntC (gN cf) (gN cf j) j) else ByteArray.empty))) ∧ (X10.ownsRow V.heap.size 3 1 (.slice (some ⟨g20, 0, none⟩) J J) (J) (intsL (J) (fun j => (cntC (gN cf) j (i + 1) : Int)))) := hS
      obtain ⟨BB, FO2, FX2⟩ := hS
      replace t1 := (h3 1 (by decide)).trans t1
      replace t6 := (h3 6 (by decide)).trans t6
      replace t7 := (h3 7 (by decide)).trans t7
      replace t21 := (h3 21 (by decide)).trans t21
      replace t22 := (h3 22 (by decide)).trans t22
      replace t23 : a.eval (.tmp 23) = .int .i64 ((i + 1 : Nat) : Int) := h4 1 _ rfl _ rfl
      replace A := (⟨h1, h2.trans A.2⟩ : a.tmps.size = 49 ∧ a.defers = [])
      clear h1 h2 h3 h4
      exact ⟨⟨i + 1, lti, A, t1, t6, t7, t21, t22, t23, BB, FO2, FX2⟩, by show n - (intOf (a.eval (.tmp 23))).toNat < n - (intOf (Act.eval _ (.tmp 23))).toNat; rw [t23, esi]; show n - (i + 1) < n - i; omega⟩
    · rw [decide_eq_false lti] at t24
      refine wp_cond_false t24 ?_
      refine wp_exit ?_
      first | with_reducible refine exit_in ?_ | with_reducible refine exit_then (exit_in ?_) | with_reducible refine exit_then (exit_then (exit_in ?_)) | refine exit_in ?_ | refine exit_then (exit_in ?_) | refine exit_then (exit_then (exit_in ?_))
      clear t24 esi
      have hin : i = n := by omega
      rw [hin, strsL_congr (g := fun j => gg (gN cf j) (cntC (gN cf) (gN cf j) j)) (fun j hj => if_pos hj)] at FO
      clear t1 t7 t21 t22 t23 FX
      refine wp_seq ?_
      refine wp_region_sq (σ := Unit) 49 [(0, 48), (1, 4), (2, 5)] (fun j_ s X => match j_ with | 0 => Below V.heap.size V X ∧ (X.ownsRow V.heap.size 9 1 (.slice (some ⟨g17, 0, none⟩) n n) (n) (strsL (n) (fun j => gg (gN cf j) (cntC (gN cf) (gN cf j) j)))) | 1 => Below V.heap.size V X ∧ (X.ownsRow V.heap.size 9 1 (.slice (some ⟨g17, 0, none⟩) n n) (n) (strsL (n) (fun j => gg (gN cf j) (cntC (gN cf) (gN cf j) j)))) | 2 => Below V.heap.size V X ∧ (X.ownsRow V.heap.size 9 1 (.slice (some ⟨g17, 0, none⟩) n n) (n) (strsL (n) (fun j => gg (gN cf j) (cntC (gN cf) (gN cf j) j)))) | _ => Below V.heap.size V X ∧ (X.ownsRow V.heap.size 9 1 (.slice (some ⟨g17, 0, none⟩) n n) (n) (strsL (n) (fun j => gg (gN cf j) (cntC (gN cf) (gN cf j) j))))) (fun s => fun i_ => match i_ with | 0 => .slice (some ⟨g17, 0, none⟩) n n | 1 => .slice (some ⟨g17, 0, none⟩) n n | 2 => .int .i64 ((0 : Nat) : Int) | _ => undef) () A.1 (by kernel_rfl) (by decide) (by decide) ⟨BB, FO⟩ ?_ ?_
      · intro i_ hi_ s a X hf hv hn hS
        match i_, hi_ with
        | 0, _ => exact stepV rfl rfl (execMvB rfl ((hf 6 (by decide)).trans t6)) ⟨s, ⟨_, rfl, rfl⟩, hS, fun _ _ => rfl⟩
        | 1, _ => exact stepV rfl rfl (execAsgB rfl (hv 0 (by decide) _ rfl _ rfl)) ⟨s, ⟨_, rfl, rfl⟩, hS, fun _ _ => rfl⟩
        | 2, _ => exact stepV rfl rfl (execAsgB rfl rfl) ⟨s, ⟨_, rfl, rfl⟩, hS, fun _ _ => rfl⟩
        | k_ + 3, h_ => exact absurd h_ (by simp)
      rintro _ a X11 h1 h2 h3 h4 hS
      clear BB
      clear FO
      replace hS : Below V.heap.size V X11 ∧ (X11.ownsRow V.heap.size 9 1 (.slice (some ⟨g17, 0, none⟩) n n) (n) (strsL (n) (fun j => gg (gN cf j) (cntC (gN cf) (gN cf j) j)))) := hS
      obtain ⟨BB, FO⟩ := hS
      have t4 : a.eval (.tmp 4) = .slice (some ⟨g17, 0, none⟩) n n := h4 1 _ rfl _ rfl
      have t5 : a.eval (.tmp 5) = .int .i64 ((0 : Nat) : Int) := h4 2 _ rfl _ rfl
      replace A := (⟨h1, h2.trans A.2⟩ : a.tmps.size = 49 ∧ a.defers = [])
      clear h1 h2 h3 h4
      clear t6
      refine wp_ret ?_
      refine bodyPost_ret (results_tmp2 rfl _ _ _) A.2 ⟨_, ?_, FO, BB⟩
      show Ending.returned (.tuple #[a.eval (.tmp 4), a.eval (.tmp 5)]) = _
      rw [t4, t5]
set_option maxRecDepth 100000 in
set_option maxHeartbeats 4000000 in
/-- The program's Weave. -/
theorem pweaveT (cf : Nat → Int) (n J : Nat) (x : Nat → Value) (ln : Nat → Nat) (gg : Nat → Nat → Int) (u0 v : Value) (V : World) (FJ : SliceI V u0 n cf) (hn17 : n ≤ 17592186044416) (hL : LLT V v J x ln gg) (hJ : J ≤ 2000000) (hls : sumN ln J ≤ 2000000) :
    Calls Try.prog 26 #[u0, v] V fun e w' => ∃ r, e = .returned (.tuple #[r, .int .i64 ((weE cf n ln J : Nat) : Int)]) ∧ w'.ownsRow V.heap.size 59 2 r (zl (weE cf n ln J) n) (intsL (zl (weE cf n ln J) n * 2) (wvH cf gg)) ∧ Below V.heap.size V w' := by
  have hsh : ∃ ao c, v = .slice ao J c := by obtain ⟨a_, c_, e_, _⟩ := hL.shape; exact ⟨a_, c_, e_⟩
  have hlf : ∀ j, j < J → -9223372036854775808 ≤ (fun j => (ln j : Int)) j ∧ (fun j => (ln j : Int)) j < 9223372036854775808 := fun j hj => by have h_ := sumN_at (r := ln) hj; show _ ≤ (ln j : Int) ∧ (ln j : Int) < _; omega
  go_enter Try.func26, Try.ntmps26
  refine wp_seq ?_
  refine wp_region_sqK 49 [(0, 4), (1, 5)] (fun i_ => match i_ with | 0 => .slice none 0 0 | 1 => .int .i64 ((0 : Nat) : Int) | _ => undef) rfl (by kernel_rfl) (by decide) (by decide) ?_ ?_
  · intro i_ hi_ a hf hv hn
    match i_, hi_ with
    | 0, _ => exact stepV rfl rfl (execAsgB rfl rfl) ⟨⟨_, rfl, rfl⟩, rfl⟩
    | 1, _ => exact stepV rfl rfl (execAsgB rfl rfl) ⟨⟨_, rfl, rfl⟩, rfl⟩
    | k_ + 2, h_ => exact absurd h_ (by simp)
  intro a h1 h2 h3 h4
  have t0 : a.eval (.tmp 0) = u0 := (h3 0 (by decide)).trans rfl
  have t1 : a.eval (.tmp 1) = v := (h3 1 (by decide)).trans rfl
  have A : a.tmps.size = 49 ∧ a.defers = [] := ⟨h1, h2⟩
  have BW : Below V.heap.size V V := Below.refl _ _
  clear h1 h2 h3 h4
  have BB := BW
  refine wp_seq ?_
  refine wp_seq ?_
  cases hst : stQ cf n (fun j => (ln j : Int)) J with
  | false =>
    refine wp_region_sq (σ := Value) 49 [(0, 10), (1, 11), (2, 12), (3, 13), (4, 14)] (fun j_ s X => match j_ with | 0 => Below V.heap.size V X | 1 => Below V.heap.size V X | 2 => Below V.heap.size V X | 3 => Below V.heap.size V X ∧ (SliceI X s (J) (fun j => (ln j : Int))) | 4 => Below V.heap.size V X ∧ (SliceI X s (J) (fun j => (ln j : Int))) | _ => Below V.heap.size V X ∧ (SliceI X s (J) (fun j => (ln j : Int)))) (fun s => fun i_ => match i_ with | 0 => u0 | 1 => v | 2 => s | 3 => .bool false | 4 => .bool true | _ => undef) undef A.1 (by kernel_rfl) (by decide) (by decide) (BB) ?_ ?_
    · intro i_ hi_ s a X hf hv hn hS
      match i_, hi_ with
      | 0, _ => exact stepV rfl rfl (execMvB rfl ((hf 0 (by decide)).trans t0)) ⟨s, ⟨_, rfl, rfl⟩, hS, fun _ _ => rfl⟩
      | 1, _ => exact stepV rfl rfl (execMvB rfl ((hf 1 (by decide)).trans t1)) ⟨s, ⟨_, rfl, rfl⟩, hS, fun _ _ => rfl⟩
      | 2, _ =>
        refine stepC rfl rfl (execCall1 Try.func39 (by kernel_rfl) (by kernel_rfl) rfl (hv 1 (by decide) _ rfl _ rfl)) (plengthsT J x ln gg _ X (hL.on hS) hJ) fun e w' hh => ?_
        obtain ⟨r_, he, hk, hb⟩ := hh
        refine ⟨_, he, r_, ⟨_, rfl, rfl⟩, ⟨(hS).trans ((hb).mono (hS).size), own_ints hk hlf⟩, fun i hi => ?_⟩
        match i, hi with
        | 0, _ => rfl
        | 1, _ => rfl
        | n_ + 2, h_ => omega
      | 3, _ => exact stepC rfl rfl (execCall2 Try.func36 (by kernel_rfl) (by kernel_rfl) rfl (hv 0 (by decide) _ rfl _ rfl) (hv 2 (by decide) _ rfl _ rfl)) (hst ▸ pstands cf (fun j => (ln j : Int)) n J _ _ X (FJ.on hS.1) hn17 hS.2 (by omega) (fun _ _ => Int.natCast_nonneg _)) fun e w' hh => ⟨_, hh.1, s, ⟨_, rfl, rfl⟩, ⟨(hS.1).trans ((hh.2).mono (hS.1).size), (hS.2.on hh.2)⟩, fun _ _ => rfl⟩
      | 4, _ => exact stepV rfl rfl (execNot8 rfl (hv 3 (by decide) _ rfl _ rfl)) ⟨s, ⟨_, rfl, rfl⟩, hS, fun _ _ => rfl⟩
      | k_ + 5, h_ => exact absurd h_ (by simp)
    rintro v12 a X1 h1 h2 h3 h4 hS
    clear BB
    replace hS : Below V.heap.size V X1 ∧ (SliceI X1 v12 (J) (fun j => (ln j : Int))) := hS
    obtain ⟨BB, FT⟩ := hS
    replace t0 := (h3 0 (by decide)).trans t0
    replace t1 := (h3 1 (by decide)).trans t1
    have t14 : a.eval (.tmp 14) = .bool true := h4 4 _ rfl _ rfl
    replace A := (⟨h1, h2.trans A.2⟩ : a.tmps.size = 49 ∧ a.defers = [])
    clear h1 h2 h3 h4
    clear FT
    refine wp_cond_true t14 ?_
    refine wp_seq ?_
    refine wp_region_sq (σ := Unit) 49 [(0, 4), (1, 5)] (fun j_ s X => match j_ with | 0 => Below V.heap.size V X | 1 => Below V.heap.size V X | _ => Below V.heap.size V X) (fun s => fun i_ => match i_ with | 0 => .slice none 0 0 | 1 => .int .i64 ((2 : Nat) : Int) | _ => undef) () A.1 (by kernel_rfl) (by decide) (by decide) (BB) ?_ ?_
    · intro i_ hi_ s a X hf hv hn hS
      match i_, hi_ with
      | 0, _ => exact stepV rfl rfl (execAsgB rfl rfl) ⟨s, ⟨_, rfl, rfl⟩, hS, fun _ _ => rfl⟩
      | 1, _ => exact stepV rfl rfl (execAsgB rfl rfl) ⟨s, ⟨_, rfl, rfl⟩, hS, fun _ _ => rfl⟩
      | k_ + 2, h_ => exact absurd h_ (by simp)
    rintro _ a X2 h1 h2 h3 h4 hS
    clear BB
    replace hS : Below V.heap.size V X2 := hS
    have BB := hS
    clear hS
    have t4 : a.eval (.tmp 4) = .slice none 0 0 := h4 0 _ rfl _ rfl
    have t5 : a.eval (.tmp 5) = .int .i64 ((2 : Nat) : Int) := h4 1 _ rfl _ rfl
    replace A := (⟨h1, h2.trans A.2⟩ : a.tmps.size = 49 ∧ a.defers = [])
    clear h1 h2 h3 h4
    clear t0 t1
    have hE : weE cf n ln J = 2 := if_neg (by rw [hst]; decide)
    rw [hE, zl_no (by decide)]
    refine wp_ret ?_
    repeat (first | with_reducible refine ret_in ?_ | with_reducible refine ret_then ?_)
    refine bodyPost_ret (results_tmp2 rfl _ _ _) A.2 ⟨_, ?_, World.ownsRow_nil _ _ _ _, BB⟩
    show Ending.returned (.tuple #[a.eval (.tmp 4), a.eval (.tmp 5)]) = _
    rw [t4, t5]
  | true =>
    refine wp_region_sq (σ := Value) 49 [(0, 10), (1, 11), (2, 12), (3, 13), (4, 14)] (fun j_ s X => match j_ with | 0 => Below V.heap.size V X | 1 => Below V.heap.size V X | 2 => Below V.heap.size V X | 3 => Below V.heap.size V X ∧ (SliceI X s (J) (fun j => (ln j : Int))) | 4 => Below V.heap.size V X ∧ (SliceI X s (J) (fun j => (ln j : Int))) | _ => Below V.heap.size V X ∧ (SliceI X s (J) (fun j => (ln j : Int)))) (fun s => fun i_ => match i_ with | 0 => u0 | 1 => v | 2 => s | 3 => .bool true | 4 => .bool false | _ => undef) undef A.1 (by kernel_rfl) (by decide) (by decide) (BB) ?_ ?_
    · intro i_ hi_ s a X hf hv hn hS
      match i_, hi_ with
      | 0, _ => exact stepV rfl rfl (execMvB rfl ((hf 0 (by decide)).trans t0)) ⟨s, ⟨_, rfl, rfl⟩, hS, fun _ _ => rfl⟩
      | 1, _ => exact stepV rfl rfl (execMvB rfl ((hf 1 (by decide)).trans t1)) ⟨s, ⟨_, rfl, rfl⟩, hS, fun _ _ => rfl⟩
      | 2, _ =>
        refine stepC rfl rfl (execCall1 Try.func39 (by kernel_rfl) (by kernel_rfl) rfl (hv 1 (by decide) _ rfl _ rfl)) (plengthsT J x ln gg _ X (hL.on hS) hJ) fun e w' hh => ?_
        obtain ⟨r_, he, hk, hb⟩ := hh
        refine ⟨_, he, r_, ⟨_, rfl, rfl⟩, ⟨(hS).trans ((hb).mono (hS).size), own_ints hk hlf⟩, fun i hi => ?_⟩
        match i, hi with
        | 0, _ => rfl
        | 1, _ => rfl
        | n_ + 2, h_ => omega
      | 3, _ => exact stepC rfl rfl (execCall2 Try.func36 (by kernel_rfl) (by kernel_rfl) rfl (hv 0 (by decide) _ rfl _ rfl) (hv 2 (by decide) _ rfl _ rfl)) (hst ▸ pstands cf (fun j => (ln j : Int)) n J _ _ X (FJ.on hS.1) hn17 hS.2 (by omega) (fun _ _ => Int.natCast_nonneg _)) fun e w' hh => ⟨_, hh.1, s, ⟨_, rfl, rfl⟩, ⟨(hS.1).trans ((hh.2).mono (hS.1).size), (hS.2.on hh.2)⟩, fun _ _ => rfl⟩
      | 4, _ => exact stepV rfl rfl (execNot8 rfl (hv 3 (by decide) _ rfl _ rfl)) ⟨s, ⟨_, rfl, rfl⟩, hS, fun _ _ => rfl⟩
      | k_ + 5, h_ => exact absurd h_ (by simp)
    rintro v12 a X1 h1 h2 h3 h4 hS
    clear BB
    replace hS : Below V.heap.size V X1 ∧ (SliceI X1 v12 (J) (fun j => (ln j : Int))) := hS
    obtain ⟨BB, FT⟩ := hS
    replace t0 := (h3 0 (by decide)).trans t0
    replace t1 := (h3 1 (by decide)).trans t1
    have t14 : a.eval (.tmp 14) = .bool false := h4 4 _ rfl _ rfl
    replace A := (⟨h1, h2.trans A.2⟩ : a.tmps.size = 49 ∧ a.defers = [])
    clear h1 h2 h3 h4
    clear FT
    refine wp_cond_false t14 ?_
    refine wp_skip ?_
    clear t14
    have hE : weE cf n ln J = 0 := if_pos hst
    rw [hE, zl_ok]
    have hpt : IsPat ln J n (gN cf) := stQ_pat hst
    have hnS : n = sumN ln J := stQ_len hst
    refine wp_seq ?_
    refine wp_region_sq (σ := Nat) 49 [(0, 15), (1, 16), (2, 17), (3, 6)] (fun j_ s X => match j_ with | 0 => Below V.heap.size V X | 1 => Below V.heap.size V X | 2 => Below V.heap.size V X | 3 => Below V.heap.size V X ∧ (X.ownsRow V.heap.size 59 2 (.slice (some ⟨s, 0, none⟩) n n) n (intsL (n * 2) (wvT cf gg 0))) ∧ (V.heap.size ≤ s) | _ => Below V.heap.size V X ∧ (X.ownsRow V.heap.size 59 2 (.slice (some ⟨s, 0, none⟩) n n) n (intsL (n * 2) (wvT cf gg 0))) ∧ (V.heap.size ≤ s)) (fun s => fun i_ => match i_ with | 0 => u0 | 1 => .int .i64 ((n : Nat) : Int) | 2 => .slice (some ⟨s, 0, none⟩) n n | 3 => .slice (some ⟨s, 0, none⟩) n n | _ => undef) 0 A.1 (by kernel_rfl) (by decide) (by decide) (BB) ?_ ?_
    · intro i_ hi_ s a X hf hv hn hS
      match i_, hi_ with
      | 0, _ => exact stepV rfl rfl (execMvB rfl ((hf 0 (by decide)).trans t0)) ⟨s, ⟨_, rfl, rfl⟩, hS, fun _ _ => rfl⟩
      | 1, _ => exact stepV rfl rfl (execLenI (len := n) rfl (hv 0 (by decide) _ rfl _ rfl) ((FJ.on hS)).shp) ⟨s, ⟨_, rfl, rfl⟩, hS, fun _ _ => rfl⟩
      | 2, _ =>
        refine stepV rfl rfl (execMkTh rfl (hv 1 (by decide) _ rfl _ rfl) (hv 1 (by decide) _ rfl _ rfl) (by omega)) ⟨X.heap.size, ⟨_, rfl, rfl⟩, ⟨(hS).trans (((belNew X _)).mono (hS).size), ownD_base (own_mkTh X n _ (by omega) (fun t _ => wvT_0 cf gg t)) (hS).size, (hS).size⟩, fun i hi => ?_⟩
        match i, hi with
        | 0, _ => rfl
        | 1, _ => rfl
        | n_ + 2, h_ => omega
      | 3, _ => exact stepV rfl rfl (execAsgB rfl (hv 2 (by decide) _ rfl _ rfl)) ⟨s, ⟨_, rfl, rfl⟩, hS, fun _ _ => rfl⟩
      | k_ + 4, h_ => exact absurd h_ (by simp)
    rintro g17 a X3 h1 h2 h3 h4 hS
    clear BB
    replace hS : Below V.heap.size V X3 ∧ (X3.ownsRow V.heap.size 59 2 (.slice (some ⟨g17, 0, none⟩) n n) n (intsL (n * 2) (wvT cf gg 0))) ∧ (V.heap.size ≤ g17) := hS
    obtain ⟨BB, FO, Fg⟩ := hS
    replace t0 := (h3 0 (by decide)).trans t0
    replace t1 := (h3 1 (by decide)).trans t1
    have t6 : a.eval (.tmp 6) = .slice (some ⟨g17, 0, none⟩) n n := h4 3 _ rfl _ rfl
    replace A := (⟨h1, h2.trans A.2⟩ : a.tmps.size = 49 ∧ a.defers = [])
    clear h1 h2 h3 h4
    refine wp_seq ?_
    refine wp_region_sq (σ := Nat) 49 [(0, 18), (1, 19), (2, 20), (3, 7)] (fun j_ s X => match j_ with | 0 => Below V.heap.size V X ∧ (X.ownsRow V.heap.size 59 2 (.slice (some ⟨g17, 0, none⟩) n n) n (intsL (n * 2) (wvT cf gg 0))) | 1 => Below V.heap.size V X ∧ (X.ownsRow V.heap.size 59 2 (.slice (some ⟨g17, 0, none⟩) n n) n (intsL (n * 2) (wvT cf gg 0))) | 2 => Below V.heap.size V X ∧ (X.ownsRow V.heap.size 59 2 (.slice (some ⟨g17, 0, none⟩) n n) n (intsL (n * 2) (wvT cf gg 0))) | 3 => Below V.heap.size V X ∧ (X.ownsRow V.heap.size 59 2 (.slice (some ⟨g17, 0, none⟩) n n) n (intsL (n * 2) (wvT cf gg 0))) ∧ (X.ownsRow V.heap.size 3 1 (.slice (some ⟨s, 0, none⟩) J J) (J) (intsL (J) (fun j => (cntC (gN cf) j 0 : Int)))) ∧ (V.heap.size ≤ s) | _ => Below V.heap.size V X ∧ (X.ownsRow V.heap.size 59 2 (.slice (some ⟨g17, 0, none⟩) n n) n (intsL (n * 2) (wvT cf gg 0))) ∧ (X.ownsRow V.heap.size 3 1 (.slice (some ⟨s, 0, none⟩) J J) (J) (intsL (J) (fun j => (cntC (gN cf) j 0 : Int)))) ∧ (V.heap.size ≤ s)) (fun s => fun i_ => match i_ with | 0 => v | 1 => .int .i64 ((J : Nat) : Int) | 2 => .slice (some ⟨s, 0, none⟩) J J | 3 => .slice (some ⟨s, 0, none⟩) J J | _ => undef) 0 A.1 (by kernel_rfl) (by decide) (by decide) ⟨BB, FO⟩ ?_ ?_
    · intro i_ hi_ s a X hf hv hn hS
      match i_, hi_ with
      | 0, _ => exact stepV rfl rfl (execMvB rfl ((hf 1 (by decide)).trans t1)) ⟨s, ⟨_, rfl, rfl⟩, hS, fun _ _ => rfl⟩
      | 1, _ => exact stepV rfl rfl (execLenLLT (len := J) rfl (hv 0 (by decide) _ rfl _ rfl) hsh) ⟨s, ⟨_, rfl, rfl⟩, hS, fun _ _ => rfl⟩
      | 2, _ =>
        refine stepV rfl rfl (execMkN rfl (hv 1 (by decide) _ rfl _ rfl) (hv 1 (by decide) _ rfl _ rfl) (by omega)) ⟨X.heap.size, ⟨_, rfl, rfl⟩, ⟨(hS.1).trans (((belNew X _)).mono (hS.1).size), (ownD_below hS.2 (belNew X _)), ownD_base (own_mkZ X J _ (by omega) (fun _ _ => rfl)) (hS.1).size, (hS.1).size⟩, fun i hi => ?_⟩
        match i, hi with
        | 0, _ => rfl
        | 1, _ => rfl
        | n_ + 2, h_ => omega
      | 3, _ => exact stepV rfl rfl (execAsgB rfl (hv 2 (by decide) _ rfl _ rfl)) ⟨s, ⟨_, rfl, rfl⟩, hS, fun _ _ => rfl⟩
      | k_ + 4, h_ => exact absurd h_ (by simp)
    rintro g20 a X4 h1 h2 h3 h4 hS
    clear BB
    clear FO
    replace hS : Below V.heap.size V X4 ∧ (X4.ownsRow V.heap.size 59 2 (.slice (some ⟨g17, 0, none⟩) n n) n (intsL (n * 2) (wvT cf gg 0))) ∧ (X4.ownsRow V.heap.size 3 1 (.slice (some ⟨g20, 0, none⟩) J J) (J) (intsL (J) (fun j => (cntC (gN cf) j 0 : Int)))) ∧ (V.heap.size ≤ g20) := hS
    obtain ⟨BB, FO, FX, Fh⟩ := hS
    replace t0 := (h3 0 (by decide)).trans t0
    replace t1 := (h3 1 (by decide)).trans t1
    replace t6 := (h3 6 (by decide)).trans t6
    have t7 : a.eval (.tmp 7) = .slice (some ⟨g20, 0, none⟩) J J := h4 3 _ rfl _ rfl
    replace A := (⟨h1, h2.trans A.2⟩ : a.tmps.size = 49 ∧ a.defers = [])
    clear h1 h2 h3 h4
    refine wp_seq ?_
    refine wp_seq ?_
    refine wp_region_sq (σ := Unit) 49 [(0, 21), (1, 22), (2, 23)] (fun j_ s X => match j_ with | 0 => Below V.heap.size V X ∧ (X.ownsRow V.heap.size 59 2 (.slice (some ⟨g17, 0, none⟩) n n) n (intsL (n * 2) (wvT cf gg 0))) ∧ (X.ownsRow V.heap.size 3 1 (.slice (some ⟨g20, 0, none⟩) J J) (J) (intsL (J) (fun j => (cntC (gN cf) j 0 : Int)))) | 1 => Below V.heap.size V X ∧ (X.ownsRow V.heap.size 59 2 (.slice (some ⟨g17, 0, none⟩) n n) n (intsL (n * 2) (wvT cf gg 0))) ∧ (X.ownsRow V.heap.size 3 1 (.slice (some ⟨g20, 0, none⟩) J J) (J) (intsL (J) (fun j => (cntC (gN cf) j 0 : Int)))) | 2 => Below V.heap.size V X ∧ (X.ownsRow V.heap.size 59 2 (.slice (some ⟨g17, 0, none⟩) n n) n (intsL (n * 2) (wvT cf gg 0))) ∧ (X.ownsRow V.heap.size 3 1 (.slice (some ⟨g20, 0, none⟩) J J) (J) (intsL (J) (fun j => (cntC (gN cf) j 0 : Int)))) | _ => Below V.heap.size V X ∧ (X.ownsRow V.heap.size 59 2 (.slice (some ⟨g17, 0, none⟩) n n) n (intsL (n * 2) (wvT cf gg 0))) ∧ (X.ownsRow V.heap.size 3 1 (.slice (some ⟨g20, 0, none⟩) J J) (J) (intsL (J) (fun j => (cntC (gN cf) j 0 : Int))))) (fun s => fun i_ => match i_ with | 0 => u0 | 1 => .int .i64 ((n : Nat) : Int) | 2 => .int .i64 ((0 : Nat) : Int) | _ => undef) () A.1 (by kernel_rfl) (by decide) (by decide) ⟨BB, FO, FX⟩ ?_ ?_
    · intro i_ hi_ s a X hf hv hn hS
      match i_, hi_ with
      | 0, _ => exact stepV rfl rfl (execMvB rfl ((hf 0 (by decide)).trans t0)) ⟨s, ⟨_, rfl, rfl⟩, hS, fun _ _ => rfl⟩
      | 1, _ => exact stepV rfl rfl (execLenI (len := n) rfl (hv 0 (by decide) _ rfl _ rfl) ((FJ.on hS.1)).shp) ⟨s, ⟨_, rfl, rfl⟩, hS, fun _ _ => rfl⟩
      | 2, _ => exact stepV rfl rfl (execMvB rfl rfl) ⟨s, ⟨_, rfl, rfl⟩, hS, fun _ _ => rfl⟩
      | k_ + 3, h_ => exact absurd h_ (by simp)
    rintro _ a X5 h1 h2 h3 h4 hS
    clear BB
    clear FO
    clear FX
    replace hS : Below V.heap.size V X5 ∧ (X5.ownsRow V.heap.size 59 2 (.slice (some ⟨g17, 0, none⟩) n n) n (intsL (n * 2) (wvT cf gg 0))) ∧ (X5.ownsRow V.heap.size 3 1 (.slice (some ⟨g20, 0, none⟩) J J) (J) (intsL (J) (fun j => (cntC (gN cf) j 0 : Int)))) := hS
    obtain ⟨BB, FO, FX⟩ := hS
    replace t1 := (h3 1 (by decide)).trans t1
    replace t6 := (h3 6 (by decide)).trans t6
    replace t7 := (h3 7 (by decide)).trans t7
    have t21 : a.eval (.tmp 21) = u0 := h4 0 _ rfl _ rfl
    have t22 : a.eval (.tmp 22) = .int .i64 ((n : Nat) : Int) := h4 1 _ rfl _ rfl
    have t23 : a.eval (.tmp 23) = .int .i64 ((0 : Nat) : Int) := h4 2 _ rfl _ rfl
    replace A := (⟨h1, h2.trans A.2⟩ : a.tmps.size = 49 ∧ a.defers = [])
    clear h1 h2 h3 h4
    clear t0
    refine wp_block ?_
    refine wp_loop (fun a W => ∃ (i : Nat), i ≤ n ∧ (a.tmps.size = 49 ∧ a.defers = []) ∧ a.eval (.tmp 1) = v ∧ a.eval (.tmp 6) = .slice (some ⟨g17, 0, none⟩) n n ∧ a.eval (.tmp 7) = .slice (some ⟨g20, 0, none⟩) J J ∧ a.eval (.tmp 21) = u0 ∧ a.eval (.tmp 22) = .int .i64 ((n : Nat) : Int) ∧ a.eval (.tmp 23) = .int .i64 ((i : Nat) : Int) ∧ Below V.heap.size V W ∧ (W.ownsRow V.heap.size 59 2 (.slice (some ⟨g17, 0, none⟩) n n) n (intsL (n * 2) (wvT cf gg i))) ∧ (W.ownsRow V.heap.size 3 1 (.slice (some ⟨g20, 0, none⟩) J J) (J) (intsL (J) (fun j => (cntC (gN cf) j i : Int))))) (fun a _ => n - (intOf (a.eval (.tmp 23))).toNat) ⟨0, Nat.zero_le _, A, t1, t6, t7, t21, t22, t23, BB, FO, FX⟩ ?_
    clear A t1 t6 t7 t21 t22 t23 BB FO FX a
    rintro a XL6 ⟨i, hi, A, t1, t6, t7, t21, t22, t23, BB, FO, FX⟩
    have esi := t23
    refine wp_seq ?_
    refine wp_region_sq (σ := Unit) 49 [(0, 24)] (fun j_ s X => match j_ with | 0 => Below V.heap.size V X ∧ (X.ownsRow V.heap.size 59 2 (.slice (some ⟨g17, 0, none⟩) n n) n (intsL (n * 2) (wvT cf gg i))) ∧ (X.ownsRow V.heap.size 3 1 (.slice (some ⟨g20, 0, none⟩) J J) (J) (intsL (J) (fun j => (cntC (gN cf) j i : Int)))) | _ => Below V.heap.size V X ∧ (X.ownsRow V.heap.size 59 2 (.slice (some ⟨g17, 0, none⟩) n n) n (intsL (n * 2) (wvT cf gg i))) ∧ (X.ownsRow V.heap.size 3 1 (.slice (some ⟨g20, 0, none⟩) J J) (J) (intsL (J) (fun j => (cntC (gN cf) j i : Int))))) (fun s => fun i_ => match i_ with | 0 => .bool (decide (i < n)) | _ => undef) () A.1 (by kernel_rfl) (by decide) (by decide) ⟨BB, FO, FX⟩ ?_ ?_
    · intro i_ hi_ s a X hf hv hn hS
      match i_, hi_ with
      | 0, _ => exact stepV rfl rfl (execLtW (p := i) (q := n) rfl ((hf 23 (by decide)).trans t23) ((hf 22 (by decide)).trans t22)) ⟨s, ⟨_, rfl, rfl⟩, hS, fun _ _ => rfl⟩
      | k_ + 1, h_ => exact absurd h_ (by simp)
    rintro _ a X6 h1 h2 h3 h4 hS
    clear BB
    clear FO
    clear FX
    replace hS : Below V.heap.size V X6 ∧ (X6.ownsRow V.heap.size 59 2 (.slice (some ⟨g17, 0, none⟩) n n) n (intsL (n * 2) (wvT cf gg i))) ∧ (X6.ownsRow V.heap.size 3 1 (.slice (some ⟨g20, 0, none⟩) J J) (J) (intsL (J) (fun j => (cntC (gN cf) j i : Int)))) := hS
    obtain ⟨BB, FO, FX⟩ := hS
    replace t1 := (h3 1 (by decide)).trans t1
    replace t6 := (h3 6 (by decide)).trans t6
    replace t7 := (h3 7 (by decide)).trans t7
    replace t21 := (h3 21 (by decide)).trans t21
    replace t22 := (h3 22 (by decide)).trans t22
    replace t23 := (h3 23 (by decide)).trans t23
    have t24 : a.eval (.tmp 24) = .bool (decide (i < n)) := h4 0 _ rfl _ rfl
    replace A := (⟨h1, h2.trans A.2⟩ : a.tmps.size = 49 ∧ a.defers = [])
    clear h1 h2 h3 h4
    refine wp_seq ?_
    by_cases lti : i < n
    · rw [decide_eq_true lti] at t24
      refine wp_cond_true t24 ?_
      refine wp_skip ?_
      clear t24
      refine wp_seq ?_
      refine wp_block ?_
      obtain ⟨ccb, cco, ccc, ecc, hccb, hccc⟩ := open_sl FJ (by omega)
      have ccc : ∀ k, k < n → ∀ X, Below V.heap.size V X → X.cell? ⟨ccb, cco + k, none⟩ = some (.int .i64 ((cf) k)) := fun k hk X hX => by rw [cell_below hX hccb]; exact hccc k hk
      obtain ⟨c, ec0⟩ : ∃ c : Nat, cf i = c := ⟨(cf i).toNat, by have := ((stQ_iff.1 hst).1 i lti).1; omega⟩
      have ec : gN cf i = c := by show (cf i).toNat = c; omega
      have hcJ : c < J := by rw [← ec]; exact hpt.lt i lti
      obtain ⟨q_, eq⟩ : ∃ q_, cntC (gN cf) c i = q_ := ⟨_, rfl⟩
      have hq : q_ < ln c := by have h_ := hpt.vis lti; rw [ec, eq] at h_; exact h_
      have hqn := cnt_le (gN cf) c i
      rw [eq] at hqn
      obtain ⟨vb, vo, vc, ev, hvb, hvc⟩ := hL.at (show 0 < J by omega)
      have cV : ∀ X, Below V.heap.size V X → X.cell? ⟨vb, vo + c, none⟩ = some (x c) := fun X hX => by rw [cell_below hX hvb]; exact hvc c hcJ
      obtain ⟨xb, xo, xc, ex, hxb, hxc⟩ := open_th (hL.lists c hcJ) (show 0 < ln c by omega)
      have cX0 : ∀ X, Below V.heap.size V X → X.cell? ⟨xb, xo + q_ * 2, none⟩ = some (.int .i64 (gg c (q_ * 2))) := fun X hX => by rw [cell_below hX hxb]; exact hxc (q_ * 2) (by omega)
      have cX1 : ∀ X, Below V.heap.size V X → X.cell? ⟨xb, xo + q_ * 2 + 1, none⟩ = some (.int .i64 (gg c (q_ * 2 + 1))) := fun X hX => by rw [cell_below hX hxb]; exact hxc (q_ * 2 + 1) (by omega)
      refine wp_seq ?_
      refine wp_region_sq (σ := Unit) 49 [(0, 25), (1, 26), (2, 27), (3, 8), (4, 9)] (fun j_ s X => match j_ with | 0 => Below V.heap.size V X ∧ (X.ownsRow V.heap.size 59 2 (.slice (some ⟨g17, 0, none⟩) n n) n (intsL (n * 2) (wvT cf gg i))) ∧ (X.ownsRow V.heap.size 3 1 (.slice (some ⟨g20, 0, none⟩) J J) (J) (intsL (J) (fun j => (cntC (gN cf) j i : Int)))) | 1 => Below V.heap.size V X ∧ (X.ownsRow V.heap.size 59 2 (.slice (some ⟨g17, 0, none⟩) n n) n (intsL (n * 2) (wvT cf gg i))) ∧ (X.ownsRow V.heap.size 3 1 (.slice (some ⟨g20, 0, none⟩) J J) (J) (intsL (J) (fun j => (cntC (gN cf) j i : Int)))) | 2 => Below V.heap.size V X ∧ (X.ownsRow V.heap.size 59 2 (.slice (some ⟨g17, 0, none⟩) n n) n (intsL (n * 2) (wvT cf gg i))) ∧ (X.ownsRow V.heap.size 3 1 (.slice (some ⟨g20, 0, none⟩) J J) (J) (intsL (J) (fun j => (cntC (gN cf) j i : Int)))) | 3 => Below V.heap.size V X ∧ (X.ownsRow V.heap.size 59 2 (.slice (some ⟨g17, 0, none⟩) n n) n (intsL (n * 2) (wvT cf gg i))) ∧ (X.ownsRow V.heap.size 3 1 (.slice (some ⟨g20, 0, none⟩) J J) (J) (intsL (J) (fun j => (cntC (gN cf) j i : Int)))) | 4 => Below V.heap.size V X ∧ (X.ownsRow V.heap.size 59 2 (.slice (some ⟨g17, 0, none⟩) n n) n (intsL (n * 2) (wvT cf gg i))) ∧ (X.ownsRow V.heap.size 3 1 (.slice (some ⟨g20, 0, none⟩) J J) (J) (intsL (J) (fun j => (cntC (gN cf) j i : Int)))) | _ => Below V.heap.size V X ∧ (X.ownsRow V.heap.size 59 2 (.slice (some ⟨g17, 0, none⟩) n n) n (intsL (n * 2) (wvT cf gg i))) ∧ (X.ownsRow V.heap.size 3 1 (.slice (some ⟨g20, 0, none⟩) J J) (J) (intsL (J) (fun j => (cntC (gN cf) j i : Int))))) (fun s => fun i_ => match i_ with | 0 => .int .i64 ((i : Nat) : Int) | 1 => .pointer (some ⟨ccb, cco + i, none⟩) | 2 => .int .i64 ((c : Nat) : Int) | 3 => .int .i64 ((i : Nat) : Int) | 4 => .int .i64 ((c : Nat) : Int) | _ => undef) () A.1 (by kernel_rfl) (by decide) (by decide) ⟨BB, FO, FX⟩ ?_ ?_
      · intro i_ hi_ s a X hf hv hn hS
        match i_, hi_ with
        | 0, _ => exact stepV rfl rfl (execMvB rfl ((hf 23 (by decide)).trans t23)) ⟨s, ⟨_, rfl, rfl⟩, hS, fun _ _ => rfl⟩
        | 1, _ => exact stepV rfl rfl (execIdxN (k := i) rfl (((hf 21 (by decide)).trans t21).trans ecc) ((hf 23 (by decide)).trans t23) lti) ⟨s, ⟨_, rfl, rfl⟩, hS, fun _ _ => rfl⟩
        | 2, _ => exact stepV rfl rfl (execLd3 rfl (hv 1 (by decide) _ rfl _ rfl) ((ccc i lti X hS.1).trans (by rw [ec0]))) ⟨s, ⟨_, rfl, rfl⟩, hS, fun _ _ => rfl⟩
        | 3, _ => exact stepV rfl rfl (execAsgB rfl (hv 0 (by decide) _ rfl _ rfl)) ⟨s, ⟨_, rfl, rfl⟩, hS, fun _ _ => rfl⟩
        | 4, _ => exact stepV rfl rfl (execAsgB rfl (hv 2 (by decide) _ rfl _ rfl)) ⟨s, ⟨_, rfl, rfl⟩, hS, fun _ _ => rfl⟩
        | k_ + 5, h_ => exact absurd h_ (by simp)
      rintro _ a X7 h1 h2 h3 h4 hS
      clear BB
      clear FO
      clear FX
      replace hS : Below V.heap.size V X7 ∧ (X7.ownsRow V.heap.size 59 2 (.slice (some ⟨g17, 0, none⟩) n n) n (intsL (n * 2) (wvT cf gg i))) ∧ (X7.ownsRow V.heap.size 3 1 (.slice (some ⟨g20, 0, none⟩) J J) (J) (intsL (J) (fun j => (cntC (gN cf) j i : Int)))) := hS
      obtain ⟨BB, FO, FX⟩ := hS
      replace t1 := (h3 1 (by decide)).trans t1
      replace t6 := (h3 6 (by decide)).trans t6
      replace t7 := (h3 7 (by decide)).trans t7
      replace t21 := (h3 21 (by decide)).trans t21
      replace t22 := (h3 22 (by decide)).trans t22
      replace t23 := (h3 23 (by decide)).trans t23
      have t8 : a.eval (.tmp 8) = .int .i64 ((i : Nat) : Int) := h4 3 _ rfl _ rfl
      have t9 : a.eval (.tmp 9) = .int .i64 ((c : Nat) : Int) := h4 4 _ rfl _ rfl
      replace A := (⟨h1, h2.trans A.2⟩ : a.tmps.size = 49 ∧ a.defers = [])
      clear h1 h2 h3 h4
      refine wp_seq ?_
      refine wp_region_stB (σ := Unit) 49 [(0, 28), (1, 29), (2, 30), (3, 31), (4, 32), (5, 33), (6, 34), (7, 35), (8, 36), (9, 37), (10, 38), (11, 39), (12, 40)] (fun l_ s X => Below V.heap.size V X ∧ (l_ 13 = false → (X.ownsRow V.heap.size 59 2 (.slice (some ⟨g17, 0, none⟩) n n) n (intsL (n * 2) (wvT cf gg i)))) ∧ ((X.ownsRow V.heap.size 3 1 (.slice (some ⟨g20, 0, none⟩) J J) (J) (intsL (J) (fun j => (cntC (gN cf) j i : Int))))) ∧ (l_ 13 = true → (X.ownsRow V.heap.size 59 2 (.slice (some ⟨g17, 0, none⟩) n n) n (intsL (n * 2) (wvT cf gg (i + 1)))))) (fun s => fun i_ => match i_ with | 0 => .slice (some ⟨g17, 0, none⟩) n n | 1 => .int .i64 ((i : Nat) : Int) | 2 => v | 3 => .int .i64 ((c : Nat) : Int) | 4 => .pointer (some ⟨vb, vo + c, none⟩) | 5 => x c | 6 => .slice (some ⟨g20, 0, none⟩) J J | 7 => .int .i64 ((c : Nat) : Int) | 8 => .pointer (some ⟨g20, 0 + c, none⟩) | 9 => .int .i64 ((q_ : Nat) : Int) | 10 => .pointer (some ⟨xb, xo + q_ * 2, none⟩) | 11 => .agg (thC (gg c (q_ * 2)) (gg c (q_ * 2 + 1))) | 12 => .pointer (some ⟨g17, 0 + i * 2, none⟩) | 13 => undef | _ => undef) () (by kernel_rfl) (by kernel_rfl) A.1 (by kernel_rfl) (by decide) (by decide) ⟨(BB.drew), (fun _ => (ownD_below FO (Below.refl _ _).drew)), ((ownD_below FX (Below.refl _ _).drew)), (fun q0_ => by cases q0_)⟩ ?_ ?_
      · intro i_ hi_ l_ s a X hl_ hf hdep hl2 hcl hno hT
        have up : ∀ j x, x ≠ j → updB l_ j x = l_ x := fun j x hj => by unfold updB; simp [hj]
        match i_, hi_ with
        | 0, _ => exact stepV rfl rfl (execMvB rfl ((hf 6 (by decide)).trans t6)) ⟨s, ⟨_, rfl, rfl⟩, ⟨hT.1, (fun q0_ => (hT.2.1 (by rw [up 0 13 (by decide)] at q0_; exact q0_))), (hT.2.2.1), (fun q0_ => absurd (hl_.symm.trans (hcl 13 _ rfl ((up 0 13 (by decide)).symm.trans q0_) 0 rfl)) (by decide))⟩, fun _ _ _ => rfl⟩
        | 1, _ => exact stepV rfl rfl (execMvB rfl ((hf 8 (by decide)).trans t8)) ⟨s, ⟨_, rfl, rfl⟩, ⟨hT.1, (fun q0_ => (hT.2.1 (by rw [up 1 13 (by decide)] at q0_; exact q0_))), (hT.2.2.1), (fun q0_ => absurd (hl_.symm.trans (hcl 13 _ rfl ((up 1 13 (by decide)).symm.trans q0_) 1 rfl)) (by decide))⟩, fun _ _ _ => rfl⟩
        | 2, _ => exact stepV rfl rfl (execMvB rfl ((hf 1 (by decide)).trans t1)) ⟨s, ⟨_, rfl, rfl⟩, ⟨hT.1, (fun q0_ => (hT.2.1 (by rw [up 2 13 (by decide)] at q0_; exact q0_))), (hT.2.2.1), (fun q0_ => absurd (hl_.symm.trans (hcl 13 _ rfl ((up 2 13 (by decide)).symm.trans q0_) 2 rfl)) (by decide))⟩, fun _ _ _ => rfl⟩
        | 3, _ => exact stepV rfl rfl (execMvB rfl ((hf 9 (by decide)).trans t9)) ⟨s, ⟨_, rfl, rfl⟩, ⟨hT.1, (fun q0_ => (hT.2.1 (by rw [up 3 13 (by decide)] at q0_; exact q0_))), (hT.2.2.1), (fun q0_ => absurd (hl_.symm.trans (hcl 13 _ rfl ((up 3 13 (by decide)).symm.trans q0_) 3 rfl)) (by decide))⟩, fun _ _ _ => rfl⟩
        | 4, _ => exact stepV rfl rfl (execIdxLLT (k := c) rfl ((hdep _ rfl 2 rfl _ rfl _ rfl).trans ev) (hdep _ rfl 3 rfl _ rfl _ rfl) hcJ) ⟨s, ⟨_, rfl, rfl⟩, ⟨hT.1, (fun q0_ => (hT.2.1 (by rw [up 4 13 (by decide)] at q0_; exact q0_))), (hT.2.2.1), (fun q0_ => absurd (hl_.symm.trans (hcl 13 _ rfl ((up 4 13 (by decide)).symm.trans q0_) 4 rfl)) (by decide))⟩, fun _ _ _ => rfl⟩
        | 5, _ => exact stepV rfl rfl (execLdLLT (v := x c) rfl (hdep _ rfl 4 rfl _ rfl _ rfl) (cV X hT.1)) ⟨s, ⟨_, rfl, rfl⟩, ⟨hT.1, (fun q0_ => (hT.2.1 (by rw [up 5 13 (by decide)] at q0_; exact q0_))), (hT.2.2.1), (fun q0_ => absurd (hl_.symm.trans (hcl 13 _ rfl ((up 5 13 (by decide)).symm.trans q0_) 5 rfl)) (by decide))⟩, fun _ _ _ => rfl⟩
        | 6, _ => exact stepV rfl rfl (execMvB rfl ((hf 7 (by decide)).trans t7)) ⟨s, ⟨_, rfl, rfl⟩, ⟨hT.1, (fun q0_ => (hT.2.1 (by rw [up 6 13 (by decide)] at q0_; exact q0_))), (hT.2.2.1), (fun q0_ => absurd (hl_.symm.trans (hcl 13 _ rfl ((up 6 13 (by decide)).symm.trans q0_) 6 rfl)) (by decide))⟩, fun _ _ _ => rfl⟩
        | 7, _ => exact stepV rfl rfl (execMvB rfl ((hf 9 (by decide)).trans t9)) ⟨s, ⟨_, rfl, rfl⟩, ⟨hT.1, (fun q0_ => (hT.2.1 (by rw [up 7 13 (by decide)] at q0_; exact q0_))), (hT.2.2.1), (fun q0_ => absurd (hl_.symm.trans (hcl 13 _ rfl ((up 7 13 (by decide)).symm.trans q0_) 7 rfl)) (by decide))⟩, fun _ _ _ => rfl⟩
        | 8, _ => exact stepV rfl rfl (execIdxN (k := c) rfl (hdep _ rfl 6 rfl _ rfl _ rfl) (hdep _ rfl 7 rfl _ rfl _ rfl) hcJ) ⟨s, ⟨_, rfl, rfl⟩, ⟨hT.1, (fun q0_ => (hT.2.1 (by rw [up 8 13 (by decide)] at q0_; exact q0_))), (hT.2.2.1), (fun q0_ => absurd (hl_.symm.trans (hcl 13 _ rfl ((up 8 13 (by decide)).symm.trans q0_) 8 rfl)) (by decide))⟩, fun _ _ _ => rfl⟩
        | 9, _ => exact stepV rfl rfl (execLd3 rfl (hdep _ rfl 8 rfl _ rfl _ rfl) ((own_cellI hT.2.2.1 hcJ).1.trans (by rw [eq]))) ⟨s, ⟨_, rfl, rfl⟩, ⟨hT.1, (fun q0_ => (hT.2.1 (by rw [up 9 13 (by decide)] at q0_; exact q0_))), (hT.2.2.1), (fun q0_ => absurd (hl_.symm.trans (hcl 13 _ rfl ((up 9 13 (by decide)).symm.trans q0_) 9 rfl)) (by decide))⟩, fun _ _ _ => rfl⟩
        | 10, _ => exact stepV rfl rfl (execIdxTh (k := q_) rfl ((hdep _ rfl 5 rfl _ rfl _ rfl).trans ex) (hdep _ rfl 9 rfl _ rfl _ rfl) hq) ⟨s, ⟨_, rfl, rfl⟩, ⟨hT.1, (fun q0_ => (hT.2.1 (by rw [up 10 13 (by decide)] at q0_; exact q0_))), (hT.2.2.1), (fun q0_ => absurd (hl_.symm.trans (hcl 13 _ rfl ((up 10 13 (by decide)).symm.trans q0_) 10 rfl)) (by decide))⟩, fun _ _ _ => rfl⟩
        | 11, _ => exact stepV rfl rfl (execLdTh rfl (hdep _ rfl 10 rfl _ rfl _ rfl) (cX0 X hT.1) (cX1 X hT.1)) ⟨s, ⟨_, rfl, rfl⟩, ⟨hT.1, (fun q0_ => (hT.2.1 (by rw [up 11 13 (by decide)] at q0_; exact q0_))), (hT.2.2.1), (fun q0_ => absurd (hl_.symm.trans (hcl 13 _ rfl ((up 11 13 (by decide)).symm.trans q0_) 11 rfl)) (by decide))⟩, fun _ _ _ => rfl⟩
        | 12, _ => exact stepV rfl rfl (execIdxTh (k := i) rfl (hdep _ rfl 0 rfl _ rfl _ rfl) (hdep _ rfl 1 rfl _ rfl _ rfl) lti) ⟨s, ⟨_, rfl, rfl⟩, ⟨hT.1, (fun q0_ => (hT.2.1 (by rw [up 12 13 (by decide)] at q0_; exact q0_))), (hT.2.2.1), (fun q0_ => absurd (hl_.symm.trans (hcl 13 _ rfl ((up 12 13 (by decide)).symm.trans q0_) 12 rfl)) (by decide))⟩, fun _ _ _ => rfl⟩
        | 13, _ =>
          refine stepStTh rfl rfl rfl (hdep _ rfl 12 rfl _ rfl _ rfl) (hdep _ rfl 11 rfl _ rfl _ rfl) (hT.2.1 hl_) lti fun W' own' gr => ⟨s, ⟨_, rfl, rfl⟩, ⟨(hT.1).grown gr (hT.1).size (fun k hk => by rw [← Option.some.inj hk]; exact Fg), (fun q0_ => absurd q0_ (by unfold updB; simp)), ((own_overT hT.2.2.1 (hT.2.1 hl_) gr (by decide))), (fun _q0_ => th_cg own' (fun t _ => wvT_next cf gg ec eq t))⟩, fun i hi hli => ?_⟩
          match i, hi with
          | 0, _ => rfl
          | 1, _ => rfl
          | 2, _ => rfl
          | 3, _ => rfl
          | 4, _ => rfl
          | 5, _ => rfl
          | 6, _ => rfl
          | 7, _ => rfl
          | 8, _ => rfl
          | 9, _ => rfl
          | 10, _ => rfl
          | 11, _ => rfl
          | 12, _ => rfl
          | 13, _ => exact absurd (hl_.symm.trans hli) (by decide)
          | k_ + 14, h_ => exact absurd h_ (by simp)
        | k_ + 14, h_ => exact absurd h_ (by simp)
      rintro l_ _ a X8 h1 h2 h3 h4 hall hT
      clear BB
      clear FO
      clear FX
      obtain ⟨BB, FO, FX, FO2⟩ := hT
      clear FO
      replace FX : (X8.ownsRow V.heap.size 3 1 (.slice (some ⟨g20, 0, none⟩) J J) (J) (intsL (J) (fun j => (cntC (gN cf) j i : Int)))) := FX
      replace FO2 : (X8.ownsRow V.heap.size 59 2 (.slice (some ⟨g17, 0, none⟩) n n) n (intsL (n * 2) (wvT cf gg (i + 1)))) := FO2 (hall 13 (by decide))
      clear hall
      replace t1 := (h3 1 (by decide)).trans t1
      replace t6 := (h3 6 (by decide)).trans t6
      replace t7 := (h3 7 (by decide)).trans t7
      replace t21 := (h3 21 (by decide)).trans t21
      replace t22 := (h3 22 (by decide)).trans t22
      replace t23 := (h3 23 (by decide)).trans t23
      replace t9 := (h3 9 (by decide)).trans t9
      replace A := (⟨h1, h2.trans A.2⟩ : a.tmps.size = 49 ∧ a.defers = [])
      clear h1 h2 h3 h4
      clear t8
      refine wp_region_sq (σ := Unit) 49 [(0, 41), (1, 42), (2, 43), (3, 44), (4, 45), (5, 46)] (fun j_ s X => match j_ with | 0 => Below V.heap.size V X ∧ (X.ownsRow V.heap.size 3 1 (.slice (some ⟨g20, 0, none⟩) J J) (J) (intsL (J) (fun j => (cntC (gN cf) j i : Int)))) ∧ (X.ownsRow V.heap.size 59 2 (.slice (some ⟨g17, 0, none⟩) n n) n (intsL (n * 2) (wvT cf gg (i + 1)))) | 1 => Below V.heap.size V X ∧ (X.ownsRow V.heap.size 3 1 (.slice (some ⟨g20, 0, none⟩) J J) (J) (intsL (J) (fun j => (cntC (gN cf) j i : Int)))) ∧ (X.ownsRow V.heap.size 59 2 (.slice (some ⟨g17, 0, none⟩) n n) n (intsL (n * 2) (wvT cf gg (i + 1)))) | 2 => Below V.heap.size V X ∧ (X.ownsRow V.heap.size 3 1 (.slice (some ⟨g20, 0, none⟩) J J) (J) (intsL (J) (fun j => (cntC (gN cf) j i : Int)))) ∧ (X.ownsRow V.heap.size 59 2 (.slice (some ⟨g17, 0, none⟩) n n) n (intsL (n * 2) (wvT cf gg (i + 1)))) | 3 => Below V.heap.size V X ∧ (X.ownsRow V.heap.size 3 1 (.slice (some ⟨g20, 0, none⟩) J J) (J) (intsL (J) (fun j => (cntC (gN cf) j i : Int)))) ∧ (X.ownsRow V.heap.size 59 2 (.slice (some ⟨g17, 0, none⟩) n n) n (intsL (n * 2) (wvT cf gg (i + 1)))) | 4 => Below V.heap.size V X ∧ (X.ownsRow V.heap.size 3 1 (.slice (some ⟨g20, 0, none⟩) J J) (J) (intsL (J) (fun j => (cntC (gN cf) j i : Int)))) ∧ (X.ownsRow V.heap.size 59 2 (.slice (some ⟨g17, 0, none⟩) n n) n (intsL (n * 2) (wvT cf gg (i + 1)))) | 5 => Below V.heap.size V X ∧ (X.ownsRow V.heap.size 3 1 (.slice (some ⟨g20, 0, none⟩) J J) (J) (intsL (J) (fun j => (cntC (gN cf) j i : Int)))) ∧ (X.ownsRow V.heap.size 59 2 (.slice (some ⟨g17, 0, none⟩) n n) n (intsL (n * 2) (wvT cf gg (i + 1)))) | 6 => Below V.heap.size V X ∧ (X.ownsRow V.heap.size 3 1 (.slice (some ⟨g20, 0, none⟩) J J) (J) (intsL (J) (fun j => (cntC (gN cf) j i : Int)))) ∧ (X.ownsRow V.heap.size 59 2 (.slice (some ⟨g17, 0, none⟩) n n) n (intsL (n * 2) (wvT cf gg (i + 1)))) | _ => Below V.heap.size V X ∧ (X.ownsRow V.heap.size 59 2 (.slice (some ⟨g17, 0, none⟩) n n) n (intsL (n * 2) (wvT cf gg (i + 1)))) ∧ (X.ownsRow V.heap.size 3 1 (.slice (some ⟨g20, 0, none⟩) J J) (J) (intsL (J) (fun j => (cntC (gN cf) j (i + 1) : Int))))) (fun s => fun i_ => match i_ with | 0 => .slice (some ⟨g20, 0, none⟩) J J | 1 => .int .i64 ((c : Nat) : Int) | 2 => .pointer (some ⟨g20, 0 + c, none⟩) | 3 => .int .i64 ((q_ : Nat) : Int) | 4 => .int .i64 ((q_ + 1 : Nat) : Int) | 5 => .pointer (some ⟨g20, 0 + c, none⟩) | 6 => undef | _ => undef) () A.1 (by kernel_rfl) (by decide) (by decide) ⟨BB, FX, FO2⟩ ?_ ?_
      · intro i_ hi_ s a X hf hv hn hS
        match i_, hi_ with
        | 0, _ => exact stepV rfl rfl (execMvB rfl ((hf 7 (by decide)).trans t7)) ⟨s, ⟨_, rfl, rfl⟩, hS, fun _ _ => rfl⟩
        | 1, _ => exact stepV rfl rfl (execMvB rfl ((hf 9 (by decide)).trans t9)) ⟨s, ⟨_, rfl, rfl⟩, hS, fun _ _ => rfl⟩
        | 2, _ => exact stepV rfl rfl (execIdxN (k := c) rfl (hv 0 (by decide) _ rfl _ rfl) (hv 1 (by decide) _ rfl _ rfl) hcJ) ⟨s, ⟨_, rfl, rfl⟩, hS, fun _ _ => rfl⟩
        | 3, _ => exact stepV rfl rfl (execLd3 rfl (hv 2 (by decide) _ rfl _ rfl) ((own_cellI hS.2.1 hcJ).1.trans (by rw [eq]))) ⟨s, ⟨_, rfl, rfl⟩, hS, fun _ _ => rfl⟩
        | 4, _ => exact stepV rfl rfl (execAd8 (p := q_) (q := 1) rfl (hv 3 (by decide) _ rfl _ rfl) rfl (by omega)) ⟨s, ⟨_, rfl, rfl⟩, hS, fun _ _ => rfl⟩
        | 5, _ => exact stepV rfl rfl (execIdxN (k := c) rfl (hv 0 (by decide) _ rfl _ rfl) (hv 1 (by decide) _ rfl _ rfl) hcJ) ⟨s, ⟨_, rfl, rfl⟩, hS, fun _ _ => rfl⟩
        | 6, _ =>
          obtain ⟨hc_, hf_⟩ := own_cellI hS.2.1 hcJ
          refine stepS rfl rfl (execStI9 rfl (hv 5 (by decide) _ rfl _ rfl) (hv 4 (by decide) _ rfl _ rfl) hc_ hf_) ⟨s, ⟨_, rfl, rfl⟩, ⟨(hS.1).setCell Fh _, (own_offT hS.2.2 (own_cur hS.2.1).choose_spec.1 (by decide)), nx_set hS.2.1 ec eq⟩, fun i hi => ?_⟩
          match i, hi with
          | 0, _ => rfl
          | 1, _ => rfl
          | 2, _ => rfl
          | 3, _ => rfl
          | 4, _ => rfl
          | 5, _ => rfl
          | n_ + 6, h_ => omega
        | k_ + 7, h_ => exact absurd h_ (by simp)
      rintro _ a X9 h1 h2 h3 h4 hS
      clear BB
      clear FX
      clear FO2
      replace hS : Below V.heap.size V X9 ∧ (X9.ownsRow V.heap.size 59 2 (.slice (some ⟨g17, 0, none⟩) n n) n (intsL (n * 2) (wvT cf gg (i + 1)))) ∧ (X9.ownsRow V.heap.size 3 1 (.slice (some ⟨g20, 0, none⟩) J J) (J) (intsL (J) (fun j => (cntC (gN cf) j (i + 1) : Int)))) := hS
      obtain ⟨BB, FO2, FX2⟩ := hS
      replace t1 := (h3 1 (by decide)).trans t1
      replace t6 := (h3 6 (by decide)).trans t6
      replace t7 := (h3 7 (by decide)).trans t7
      replace t21 := (h3 21 (by decide)).trans t21
      replace t22 := (h3 22 (by decide)).trans t22
      replace t23 := (h3 23 (by decide)).trans t23
      replace A := (⟨h1, h2.trans A.2⟩ : a.tmps.size = 49 ∧ a.defers = [])
      clear h1 h2 h3 h4
      clear t9
      refine wp_region_sq (σ := Unit) 49 [(0, 47), (1, 23)] (fun j_ s X => match j_ with | 0 => Below V.heap.size V X ∧ (X.ownsRow V.heap.size 59 2 (.slice (some ⟨g17, 0, none⟩) n n) n (intsL (n * 2) (wvT cf gg (i + 1)))) ∧ (X.ownsRow V.heap.size 3 1 (.slice (some ⟨g20, 0, none⟩) J J) (J) (intsL (J) (fun j => (cntC (gN cf) j (i + 1) : Int)))) | 1 => Below V.heap.size V X ∧ (X.ownsRow V.heap.size 59 2 (.slice (some ⟨g17, 0, none⟩) n n) n (intsL (n * 2) (wvT cf gg (i + 1)))) ∧ (X.ownsRow V.heap.size 3 1 (.slice (some ⟨g20, 0, none⟩) J J) (J) (intsL (J) (fun j => (cntC (gN cf) j (i + 1) : Int)))) | _ => Below V.heap.size V X ∧ (X.ownsRow V.heap.size 59 2 (.slice (some ⟨g17, 0, none⟩) n n) n (intsL (n * 2) (wvT cf gg (i + 1)))) ∧ (X.ownsRow V.heap.size 3 1 (.slice (some ⟨g20, 0, none⟩) J J) (J) (intsL (J) (fun j => (cntC (gN cf) j (i + 1) : Int))))) (fun s => fun i_ => match i_ with | 0 => .int .i64 ((i + 1 : Nat) : Int) | 1 => .int .i64 ((i + 1 : Nat) : Int) | _ => undef) () A.1 (by kernel_rfl) (by decide) (by decide) ⟨BB, FO2, FX2⟩ ?_ ?_
      · intro i_ hi_ s a X hf hv hn hS
        match i_, hi_ with
        | 0, _ => exact stepV rfl rfl (execAd8 (p := i) (q := 1) rfl ((hn 1 (by decide) _ rfl _ rfl).trans t23) rfl (by omega)) ⟨s, ⟨_, rfl, rfl⟩, hS, fun _ _ => rfl⟩
        | 1, _ => exact stepV rfl rfl (execMvB rfl (hv 0 (by decide) _ rfl _ rfl)) ⟨s, ⟨_, rfl, rfl⟩, hS, fun _ _ => rfl⟩
        | k_ + 2, h_ => exact absurd h_ (by simp)
      rintro _ a X10 h1 h2 h3 h4 hS
      clear BB
      clear FO2
      clear FX2
      replace hS : Below V.heap.size V X10 ∧ (X10.ownsRow V.heap.size 59 2 (.slice (some ⟨g17, 0, none⟩) n n) n (intsL (n * 2) (wvT cf gg (i + 1)))) ∧ (X10.ownsRow V.heap.size 3 1 (.slice (some ⟨g20, 0, none⟩) J J) (J) (intsL (J) (fun j => (cntC (gN cf) j (i + 1) : Int)))) := hS
      obtain ⟨BB, FO2, FX2⟩ := hS
      replace t1 := (h3 1 (by decide)).trans t1
      replace t6 := (h3 6 (by decide)).trans t6
      replace t7 := (h3 7 (by decide)).trans t7
      replace t21 := (h3 21 (by decide)).trans t21
      replace t22 := (h3 22 (by decide)).trans t22
      replace t23 : a.eval (.tmp 23) = .int .i64 ((i + 1 : Nat) : Int) := h4 1 _ rfl _ rfl
      replace A := (⟨h1, h2.trans A.2⟩ : a.tmps.size = 49 ∧ a.defers = [])
      clear h1 h2 h3 h4
      exact ⟨⟨i + 1, lti, A, t1, t6, t7, t21, t22, t23, BB, FO2, FX2⟩, by show n - (intOf (a.eval (.tmp 23))).toNat < n - (intOf (Act.eval _ (.tmp 23))).toNat; rw [t23, esi]; show n - (i + 1) < n - i; omega⟩
    · rw [decide_eq_false lti] at t24
      refine wp_cond_false t24 ?_
      refine wp_exit ?_
      first | with_reducible refine exit_in ?_ | with_reducible refine exit_then (exit_in ?_) | with_reducible refine exit_then (exit_then (exit_in ?_)) | refine exit_in ?_ | refine exit_then (exit_in ?_) | refine exit_then (exit_then (exit_in ?_))
      clear t24 esi
      have hin : i = n := by omega
      rw [hin] at FO
      replace FO := th_cg FO (fun t ht => wvT_end cf gg ht)
      clear t1 t7 t21 t22 t23 FX
      refine wp_seq ?_
      refine wp_region_sq (σ := Unit) 49 [(0, 48), (1, 4), (2, 5)] (fun j_ s X => match j_ with | 0 => Below V.heap.size V X ∧ (X.ownsRow V.heap.size 59 2 (.slice (some ⟨g17, 0, none⟩) n n) n (intsL (n * 2) (wvH cf gg))) | 1 => Below V.heap.size V X ∧ (X.ownsRow V.heap.size 59 2 (.slice (some ⟨g17, 0, none⟩) n n) n (intsL (n * 2) (wvH cf gg))) | 2 => Below V.heap.size V X ∧ (X.ownsRow V.heap.size 59 2 (.slice (some ⟨g17, 0, none⟩) n n) n (intsL (n * 2) (wvH cf gg))) | _ => Below V.heap.size V X ∧ (X.ownsRow V.heap.size 59 2 (.slice (some ⟨g17, 0, none⟩) n n) n (intsL (n * 2) (wvH cf gg)))) (fun s => fun i_ => match i_ with | 0 => .slice (some ⟨g17, 0, none⟩) n n | 1 => .slice (some ⟨g17, 0, none⟩) n n | 2 => .int .i64 ((0 : Nat) : Int) | _ => undef) () A.1 (by kernel_rfl) (by decide) (by decide) ⟨BB, FO⟩ ?_ ?_
      · intro i_ hi_ s a X hf hv hn hS
        match i_, hi_ with
        | 0, _ => exact stepV rfl rfl (execMvB rfl ((hf 6 (by decide)).trans t6)) ⟨s, ⟨_, rfl, rfl⟩, hS, fun _ _ => rfl⟩
        | 1, _ => exact stepV rfl rfl (execAsgB rfl (hv 0 (by decide) _ rfl _ rfl)) ⟨s, ⟨_, rfl, rfl⟩, hS, fun _ _ => rfl⟩
        | 2, _ => exact stepV rfl rfl (execAsgB rfl rfl) ⟨s, ⟨_, rfl, rfl⟩, hS, fun _ _ => rfl⟩
        | k_ + 3, h_ => exact absurd h_ (by simp)
      rintro _ a X11 h1 h2 h3 h4 hS
      clear BB
      clear FO
      replace hS : Below V.heap.size V X11 ∧ (X11.ownsRow V.heap.size 59 2 (.slice (some ⟨g17, 0, none⟩) n n) n (intsL (n * 2) (wvH cf gg))) := hS
      obtain ⟨BB, FO⟩ := hS
      have t4 : a.eval (.tmp 4) = .slice (some ⟨g17, 0, none⟩) n n := h4 1 _ rfl _ rfl
      have t5 : a.eval (.tmp 5) = .int .i64 ((0 : Nat) : Int) := h4 2 _ rfl _ rfl
      replace A := (⟨h1, h2.trans A.2⟩ : a.tmps.size = 49 ∧ a.defers = [])
      clear h1 h2 h3 h4
      clear t6
      refine wp_ret ?_
      refine bodyPost_ret (results_tmp2 rfl _ _ _) A.2 ⟨_, ?_, FO, BB⟩
      show Ending.returned (.tuple #[a.eval (.tmp 4), a.eval (.tmp 5)]) = _
      rw [t4, t5]
end Go.Proofs.Ytdecmmcphcomhaa.Brd
