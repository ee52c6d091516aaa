import Derived.Test.YtdecmmcphcomhaaQ9w
namespace Go.Proofs.Ytdecmmcphcomhaa.Brd
open Go.RowKit Gf8 Aes By8 Cel Cf Tap Drw Prm
/- Stage 12's BraidDeals. Written by tools/mkQ9x.py. -/

section
variable {o : Oper} {a : Act} {w : World}
theorem execLeIt {x y : Operand} {p q : Int} (ho : o.op = .binOp .leq 3 x y 3) (hx : a.eval x = .int .i64 p) (hy : a.eval y = .int .i64 q) (h : p ≤ q) : (execOp a.eval o).run Try.prog w = .ok (.value (.bool true)) w := by
  unfold execOp
  simp only [ho, hx, hy]
  simp [go_sem]
  omega
theorem execLeIf {x y : Operand} {p q : Int} (ho : o.op = .binOp .leq 3 x y 3) (hx : a.eval x = .int .i64 p) (hy : a.eval y = .int .i64 q) (h : ¬ p ≤ q) : (execOp a.eval o).run Try.prog w = .ok (.value (.bool false)) w := by
  unfold execOp
  simp only [ho, hx, hy]
  simp [go_sem]
  omega
theorem execNeBB {x y : Operand} {b : Bool} (ho : o.op = .binOp .neq 4 x y 4) (hx : a.eval x = .bool b) (hy : a.eval y = .bool b) : (execOp a.eval o).run Try.prog w = .ok (.value (.bool false)) w := by
  unfold execOp
  simp only [ho, hx, hy]
  simp [go_sem]
theorem execAddIg {x y : Operand} {p q z : Int} (ho : o.op = .binOp .add 3 x y 3) (hx : a.eval x = .int .i64 p) (hy : a.eval y = .int .i64 q) (h : z = p + q) (h1 : -9223372036854775808 ≤ z) (h2 : z < 9223372036854775808) : (execOp a.eval o).run Try.prog w = .ok (.value (.int .i64 z)) w := by
  subst h
  unfold execOp
  simp only [ho, hx, hy]
  simp [go_sem, IntKind.wrap, show IntKind.i64.signed = true from rfl]
  omega
theorem execNegIg {x : Operand} {p z : Int} (ho : o.op = .unOp .neg 3 x) (hx : a.eval x = .int .i64 p) (h : z = -p) (h1 : -9223372036854775808 ≤ z) (h2 : z < 9223372036854775808) : (execOp a.eval o).run Try.prog w = .ok (.value (.int .i64 z)) w := by
  subst h
  unfold execOp
  simp only [ho, hx]
  simp [go_sem, IntKind.wrap, show IntKind.i64.signed = true from rfl]
  omega
end
def plN (z : Int) (n : Nat) : Nat := (if z < 0 then (-(z + 1)).toNat else z.toNat) % n
/-- The draws that are dealt by. -/
def oF (df : Nat → Int) (M N j : Nat) : Nat := if j < M then plN (df j) (N - j) else 0
theorem oF_lt (df : Nat → Int) (M : Nat) {N j : Nat} (h : j < N) : oF df M N j < N - j := by
  unfold oF
  by_cases q : j < M
  · rw [if_pos q]
    exact Nat.mod_lt _ (by omega)
  · rw [if_neg q]
    omega
theorem oF_fits (df : Nat → Int) (M N : Nat) (hN : N ≤ 256) : ∀ j, j < N → -9223372036854775808 ≤ (fun j => (oF df M N j : Int)) j ∧ (fun j => (oF df M N j : Int)) j < 9223372036854775808 := fun j hj => by
  have := oF_lt df M hj
  show _ ≤ ((oF df M N j : Nat) : Int) ∧ ((oF df M N j : Nat) : Int) < _
  omega
theorem own_zero {W : World} {B n i : Nat} {v : Value} {F : Nat → Int} (h : W.ownsRow B 3 1 v n (intsL n (fun j => if j < i then F j else 0))) (e : F i = 0) : W.ownsRow B 3 1 v n (intsL n (fun j => if j < (i + 1) then F j else 0)) := by
  rw [← intsL_congr (fun j hj => ?_)]
  · exact h
  · show (if j < i then F j else 0) = if j < i + 1 then F j else 0
    by_cases q : j < i
    · rw [if_pos q, if_pos (by omega)]
    · rw [if_neg q]
      by_cases q2 : j = i
      · subst q2; rw [if_pos (by omega), e]
      · rw [if_neg (by omega)]
theorem sz_pre (N : Nat) (D : Nat) : ∀ j, sumN (szF N D) j = j * (N / D) + min j (N % D)
  | 0 => by simp [sumN]
  | j + 1 => by
    show sumN (szF N D) j + (N / D + if j < N % D then 1 else 0) = _
    rw [sz_pre N D j, Nat.succ_mul]
    by_cases h : j < N % D
    · rw [if_pos h]; omega
    · rw [if_neg h]; omega
theorem sz_sum (N : Nat) {D : Nat} (h : 0 < D) : sumN (szF N D) D = N := by
  have h1 := Nat.mod_lt N h
  have h2 := Nat.div_add_mod N D
  rw [sz_pre]
  omega
theorem sz_ord (N : Nat) {D j : Nat} (h : 0 < D) (hj : j < D) : szF N D (D - 1) ≤ szF N D j ∧ szF N D j ≤ szF N D 0 ∧ szF N D 0 - szF N D (D - 1) ≤ 1 ∧ (0 < j → szF N D j ≤ szF N D (j - 1)) := by
  have h1 := Nat.mod_lt N h
  have e : ∀ i, (if i < N % D then 1 else 0 : Nat) ≤ 1 := fun i => by split <;> omega
  have m : ∀ i k, i ≤ k → (if k < N % D then 1 else 0 : Nat) ≤ if i < N % D then 1 else 0 := fun i k q => by
    by_cases z : k < N % D
    · rw [if_pos z, if_pos (by omega)]; exact Nat.le_refl _
    · rw [if_neg z]; exact Nat.zero_le _
  have a1 := m j (D - 1) (by omega)
  have a2 := m 0 j (by omega)
  have a3 := e 0
  have a4 := m (j - 1) j (by omega)
  unfold szF
  refine ⟨by omega, by omega, by omega, fun _ => by omega⟩
/-- The things of chunk t, by their numbers. -/
def ggS (N D t v : Nat) : Int := ((sumN (szF N D) t + v : Nat) : Int)
theorem ggS_fits (N : Nat) {D : Nat} (_h : 0 < D) (hss : sumN (szF N D) D = N) (hN : N ≤ 256) : ∀ t, t < D → ∀ v, v < szF N D t → -9223372036854775808 ≤ ggS N D t v ∧ ggS N D t v < 9223372036854775808 := fun t ht v hv => by
  have := sumN_at (r := szF N D) ht
  unfold ggS
  omega
theorem lli_of {W : World} {B C D : Nat} {p : Value} {x : Nat → Value} {nn : Nat → Nat} {gg : Nat → Nat → Int} (hm : FmI B D x nn gg W) (hp : W.ownsRow C 23 1 p D (lL x D)) (hf : ∀ t, t < D → ∀ v, v < nn t → -9223372036854775808 ≤ gg t v ∧ gg t v < 9223372036854775808) : LLI W p D x nn gg := by
  refine ⟨?_, fun j hj => own_ints (hm.rows j hj) (hf j hj)⟩
  obtain ⟨a, c, e⟩ := shpO hp
  refine ⟨a, c, e, fun h0 => ?_⟩
  obtain ⟨g, c', e2, _, hg⟩ := ownL_some9 hp h0
  rw [e] at e2
  injection e2 with q1 _ q3
  refine ⟨g, 0, q1, hg, fun j hj => ?_⟩
  rw [e, q1] at hp
  exact ownL_cellI hp hj
theorem deal_pa (df : Nat → Int) (M : Nat) {N D : Nat} (h : 0 < D) (hss : sumN (szF N D) D = N) (hN : N ≤ 256) (hD : D ≤ 64) : paQ (fun j => (szF N D j : Int)) D (fun j => (oF df M N j : Int)) N = true := by
  refine paQ_iff.2 ⟨szQ_iff.2 ⟨⟨h, hD⟩, okS_iff.2 fun j hj => ?_⟩, hss.symm, faQ_iff.2 fun i hi => ?_⟩
  · have h1 := sumN_at (r := szF N D) hj
    show 0 ≤ ((szF N D j : Nat) : Int) ∧ ((szF N D j : Nat) : Int) ≤ 256 - ((sumN (szF N D) j : Nat) : Int)
    omega
  · have := oF_lt df M hi
    show 0 ≤ ((oF df M N i : Nat) : Int) ∧ ((oF df M N i : Nat) : Int) < _
    omega
theorem po_bnd {s C : Nat → Nat} {J n : Nat} (hn : sumN s J = n) (h : IsPat s J n C) (hN : n ≤ 256) : ∀ j, j < n → -9223372036854775808 ≤ (fun j => (poC s C j : Int)) j ∧ (fun j => (poC s C j : Int)) j < 9223372036854775808 := fun j hj => by
  have := poC_lt hn h hj
  show _ ≤ ((poC s C j : Nat) : Int) ∧ ((poC s C j : Nat) : Int) < _
  omega
/-- What has been seen; the last one of each chunk. -/
def snB (s C : Nat → Nat) : Nat → Nat → Bool
  | 0, _ => false
  | i + 1, y => if y = poC s C i then true else snB s C i y
def laN (s C : Nat → Nat) : Nat → Nat → Nat
  | 0, _ => 0
  | i + 1, j => if j = C i then poC s C i + 1 else laN s C i j
theorem sn_no {s C : Nat → Nat} {J n i : Nat} (h : IsPat s J n C) (hi : i < n) : snB s C i (poC s C i) = false := by
  have key : ∀ k, k ≤ i → snB s C k (poC s C i) = false := fun k => by
    induction k with
    | zero => intro _; rfl
    | succ k ih =>
      intro hk
      show (if poC s C i = poC s C k then true else snB s C k (poC s C i)) = false
      rw [if_neg (fun q => by have := poC_inj h hi (by omega) q; omega)]
      exact ih (by omega)
  exact key i (Nat.le_refl _)
theorem la_le {s C : Nat → Nat} (i : Nat) : laN s C i (C i) ≤ poC s C i := by
  have key : ∀ k j, laN s C k j ≤ sumN s j + cntC C j k := fun k j => by
    induction k with
    | zero => exact Nat.zero_le _
    | succ k ih =>
      show (if j = C k then poC s C k + 1 else laN s C k j) ≤ sumN s j + (cntC C j k + if C k = j then 1 else 0)
      by_cases q : j = C k
      · subst q
        rw [if_pos rfl, if_pos rfl]
        exact Nat.le_refl _
      · rw [if_neg q]
        omega
  exact key i (C i)
theorem sn_set {W : World} {B n i w g c : Nat} {s C : Nat → Nat} (h : W.ownsRow B 4 1 (.slice (some ⟨g, 0, none⟩) n c) n (boolsL n (snB s C i))) (ew : poC s C i = w) : (W.setCell ⟨g, 0 + w, none⟩ (.bool true)).ownsRow B 4 1 (.slice (some ⟨g, 0, none⟩) n c) n (boolsL n (snB s C (i + 1))) := by
  have h1 := own_setBl (k := w) true h
  rw [← boolsL_congr (fun j hj => ?_)]
  · exact h1
  · show (if j = w then true else snB s C i j) = if j = poC s C i then true else snB s C i j
    rw [ew]
theorem la_set {W : World} {B n i w d g c : Nat} {s C : Nat → Nat} (h : W.ownsRow B 3 1 (.slice (some ⟨g, 0, none⟩) n c) n (intsL n (fun j => (laN s C i j : Int)))) (ec : C i = d) (ew : poC s C i = w) : (W.setCell ⟨g, 0 + d, none⟩ (.int .i64 ((w + 1 : Nat) : Int))).ownsRow B 3 1 (.slice (some ⟨g, 0, none⟩) n c) n (intsL n (fun j => (laN s C (i + 1) j : Int))) := by
  have h1 := own_setF (k := d) ((w + 1 : Nat) : Int) h
  rw [← intsL_congr (fun j hj => ?_)]
  · exact h1
  · show (if j = d then ((w + 1 : Nat) : Int) else ((laN s C i j : Nat) : Int)) = ((if j = C i then poC s C i + 1 else laN s C i j : Nat) : Int)
    rw [ec, ew]
    by_cases q : j = d
    · rw [if_pos q, if_pos q]
    · rw [if_neg q, if_neg q]
set_option maxRecDepth 100000 in
set_option maxHeartbeats 4000000 in
/-- The law's place. -/
theorem pplace (z : Int) (n : Nat) (V : World) (h1 : -9223372036854775808 ≤ z) (h2 : z < 9223372036854775808) (hn : 0 < n) :
    Calls Try.prog 27 #[.int .i64 z, .int .i64 ((n : Nat) : Int)] V fun e w' => e = .returned (.int .i64 ((plN z n : Nat) : Int)) ∧ Below V.heap.size V w' := by
  go_enter Try.func27, Try.ntmps27
  refine wp_seq ?_
  refine wp_region_sqK 13 [(0, 4)] (fun i_ => match i_ with | 0 => .int .i64 ((0 : Nat) : Int) | _ => undef) rfl (by kernel_rfl) (by decide) (by decide) ?_ ?_
  · intro i_ hi_ a hf hv hn
    match i_, hi_ with
    | 0, _ => exact stepV rfl rfl (execAsgB rfl rfl) ⟨⟨_, rfl, rfl⟩, rfl⟩
    | k_ + 1, h_ => exact absurd h_ (by simp)
  intro a h1 h2 h3 h4
  have t0 : a.eval (.tmp 0) = .int .i64 z := (h3 0 (by decide)).trans rfl
  have t1 : a.eval (.tmp 1) = .int .i64 ((n : Nat) : Int) := (h3 1 (by decide)).trans rfl
  have A : a.tmps.size = 13 ∧ a.defers = [] := ⟨h1, h2⟩
  have BW : Below V.heap.size V V := Below.refl _ _
  clear h1 h2 h3 h4
  have BB := BW
  refine wp_seq ?_
  refine wp_seq ?_
  by_cases hz : z < 0
  · refine wp_region_sq (σ := Unit) 13 [(0, 5), (1, 6)] (fun j_ s X => match j_ with | 0 => Below V.heap.size V X | 1 => Below V.heap.size V X | _ => Below V.heap.size V X) (fun s => fun i_ => match i_ with | 0 => .int .i64 z | 1 => .bool true | _ => undef) () A.1 (by kernel_rfl) (by decide) (by decide) (BB) ?_ ?_
    · intro i_ hi_ s a X hf hv hn hS
      match i_, hi_ with
      | 0, _ => exact stepV rfl rfl (execMvB rfl ((hf 0 (by decide)).trans t0)) ⟨s, ⟨_, rfl, rfl⟩, hS, fun _ _ => rfl⟩
      | 1, _ => exact stepV rfl rfl (execLtCt (p := z) (q := 0) rfl (hv 0 (by decide) _ rfl _ rfl) (by exact hz)) ⟨s, ⟨_, rfl, rfl⟩, hS, fun _ _ => rfl⟩
      | k_ + 2, h_ => exact absurd h_ (by simp)
    rintro _ a X1 h1 h2 h3 h4 hS
    clear BB
    replace hS : Below V.heap.size V X1 := hS
    have BB := hS
    clear hS
    replace t0 := (h3 0 (by decide)).trans t0
    replace t1 := (h3 1 (by decide)).trans t1
    have t6 : a.eval (.tmp 6) = .bool true := h4 1 _ rfl _ rfl
    replace A := (⟨h1, h2.trans A.2⟩ : a.tmps.size = 13 ∧ a.defers = [])
    clear h1 h2 h3 h4
    refine wp_cond_true t6 ?_
    clear t6
    obtain ⟨w, ew⟩ : ∃ w : Nat, -(z + 1) = w := ⟨(-(z + 1)).toNat, by omega⟩
    have hp : plN z n = w % n := by unfold plN; rw [if_pos hz, ew]; rfl
    refine wp_region_sq (σ := Unit) 13 [(0, 7), (1, 8), (2, 9), (3, 0)] (fun j_ s X => match j_ with | 0 => Below V.heap.size V X | 1 => Below V.heap.size V X | 2 => Below V.heap.size V X | 3 => Below V.heap.size V X | _ => Below V.heap.size V X) (fun s => fun i_ => match i_ with | 0 => .int .i64 z | 1 => .int .i64 (z + 1) | 2 => .int .i64 ((w : Nat) : Int) | 3 => .int .i64 ((w : Nat) : Int) | _ => undef) () A.1 (by kernel_rfl) (by decide) (by decide) (BB) ?_ ?_
    · intro i_ hi_ s a X hf hv hn hS
      match i_, hi_ with
      | 0, _ => exact stepV rfl rfl (execMvB rfl ((hn 3 (by decide) _ rfl _ rfl).trans t0)) ⟨s, ⟨_, rfl, rfl⟩, hS, fun _ _ => rfl⟩
      | 1, _ => exact stepV rfl rfl (execAddIg (p := z) (q := 1) (z := z + 1) rfl (hv 0 (by decide) _ rfl _ rfl) rfl rfl (by omega) (by omega)) ⟨s, ⟨_, rfl, rfl⟩, hS, fun _ _ => rfl⟩
      | 2, _ => exact stepV rfl rfl (execNegIg (p := z + 1) (z := ((w : Nat) : Int)) rfl (hv 1 (by decide) _ rfl _ rfl) (by omega) (by omega) (by omega)) ⟨s, ⟨_, rfl, rfl⟩, hS, fun _ _ => rfl⟩
      | 3, _ => exact stepV rfl rfl (execAsgB rfl (hv 2 (by decide) _ rfl _ rfl)) ⟨s, ⟨_, rfl, rfl⟩, hS, fun _ _ => rfl⟩
      | k_ + 4, h_ => exact absurd h_ (by simp)
    rintro _ a X2 h1 h2 h3 h4 hS
    clear BB
    replace hS : Below V.heap.size V X2 := hS
    have BB := hS
    clear hS
    replace t0 : a.eval (.tmp 0) = .int .i64 ((w : Nat) : Int) := h4 3 _ rfl _ rfl
    replace t1 := (h3 1 (by decide)).trans t1
    replace A := (⟨h1, h2.trans A.2⟩ : a.tmps.size = 13 ∧ a.defers = [])
    clear h1 h2 h3 h4
    rw [hp]
    refine wp_seq ?_
    refine wp_region_sq (σ := Unit) 13 [(0, 10), (1, 11), (2, 12), (3, 4)] (fun j_ s X => match j_ with | 0 => Below V.heap.size V X | 1 => Below V.heap.size V X | 2 => Below V.heap.size V X | 3 => Below V.heap.size V X | _ => Below V.heap.size V X) (fun s => fun i_ => match i_ with | 0 => .int .i64 ((w : Nat) : Int) | 1 => .int .i64 ((n : Nat) : Int) | 2 => .int .i64 ((w % n : Nat) : Int) | 3 => .int .i64 ((w % n : Nat) : Int) | _ => undef) () A.1 (by kernel_rfl) (by decide) (by decide) (BB) ?_ ?_
    · intro i_ hi_ s a X hf hv hn hS
      match i_, hi_ with
      | 0, _ => exact stepV rfl rfl (execMvB rfl ((hf 0 (by decide)).trans t0)) ⟨s, ⟨_, rfl, rfl⟩, hS, fun _ _ => rfl⟩
      | 1, _ => exact stepV rfl rfl (execMvB rfl ((hf 1 (by decide)).trans t1)) ⟨s, ⟨_, rfl, rfl⟩, hS, fun _ _ => rfl⟩
      | 2, _ => exact stepV rfl rfl (Aes.execRemI (p := w) (q := n) rfl (hv 0 (by decide) _ rfl _ rfl) (hv 1 (by decide) _ rfl _ rfl) (by omega)) ⟨s, ⟨_, rfl, rfl⟩, hS, fun _ _ => rfl⟩
      | 3, _ => exact stepV rfl rfl (execAsgB rfl (hv 2 (by decide) _ rfl _ rfl)) ⟨s, ⟨_, rfl, rfl⟩, hS, fun _ _ => rfl⟩
      | k_ + 4, h_ => exact absurd h_ (by simp)
    rintro _ a X3 h1 h2 h3 h4 hS
    clear BB
    replace hS : Below V.heap.size V X3 := hS
    have BB := hS
    clear hS
    have t4 : a.eval (.tmp 4) = .int .i64 ((w % n : Nat) : Int) := h4 3 _ rfl _ rfl
    replace A := (⟨h1, h2.trans A.2⟩ : a.tmps.size = 13 ∧ a.defers = [])
    clear h1 h2 h3 h4
    clear t0 t1
    refine wp_ret ?_
    repeat (first | with_reducible refine ret_in ?_ | with_reducible refine ret_then ?_)
    refine bodyPost_ret (results_tmp rfl _ _ _) A.2 ⟨?_, BB⟩
    show Ending.returned (a.eval (.tmp 4)) = _
    rw [t4]
  · refine wp_region_sq (σ := Unit) 13 [(0, 5), (1, 6)] (fun j_ s X => match j_ with | 0 => Below V.heap.size V X | 1 => Below V.heap.size V X | _ => Below V.heap.size V X) (fun s => fun i_ => match i_ with | 0 => .int .i64 z | 1 => .bool false | _ => undef) () A.1 (by kernel_rfl) (by decide) (by decide) (BB) ?_ ?_
    · intro i_ hi_ s a X hf hv hn hS
      match i_, hi_ with
      | 0, _ => exact stepV rfl rfl (execMvB rfl ((hf 0 (by decide)).trans t0)) ⟨s, ⟨_, rfl, rfl⟩, hS, fun _ _ => rfl⟩
      | 1, _ => exact stepV rfl rfl (execLtCf (p := z) (q := 0) rfl (hv 0 (by decide) _ rfl _ rfl) (by exact hz)) ⟨s, ⟨_, rfl, rfl⟩, hS, fun _ _ => rfl⟩
      | k_ + 2, h_ => exact absurd h_ (by simp)
    rintro _ a X1 h1 h2 h3 h4 hS
    clear BB
    replace hS : Below V.heap.size V X1 := hS
    have BB := hS
    clear hS
    replace t0 := (h3 0 (by decide)).trans t0
    replace t1 := (h3 1 (by decide)).trans t1
    have t6 : a.eval (.tmp 6) = .bool false := h4 1 _ rfl _ rfl
    replace A := (⟨h1, h2.trans A.2⟩ : a.tmps.size = 13 ∧ a.defers = [])
    clear h1 h2 h3 h4
    refine wp_cond_false t6 ?_
    refine wp_skip ?_
    clear t6
    obtain ⟨w, rfl⟩ : ∃ w : Nat, z = w := ⟨z.toNat, by omega⟩
    have hp : plN (w : Int) n = w % n := by unfold plN; rw [if_neg hz]; rfl
    rw [hp]
    refine wp_seq ?_
    refine wp_region_sq (σ := Unit) 13 [(0, 10), (1, 11), (2, 12), (3, 4)] (fun j_ s X => match j_ with | 0 => Below V.heap.size V X | 1 => Below V.heap.size V X | 2 => Below V.heap.size V X | 3 => Below V.heap.size V X | _ => Below V.heap.size V X) (fun s => fun i_ => match i_ with | 0 => .int .i64 ((w : Nat) : Int) | 1 => .int .i64 ((n : Nat) : Int) | 2 => .int .i64 ((w % n : Nat) : Int) | 3 => .int .i64 ((w % n : Nat) : Int) | _ => undef) () A.1 (by kernel_rfl) (by decide) (by decide) (BB) ?_ ?_
    · intro i_ hi_ s a X hf hv hn hS
      match i_, hi_ with
      | 0, _ => exact stepV rfl rfl (execMvB rfl ((hf 0 (by decide)).trans t0)) ⟨s, ⟨_, rfl, rfl⟩, hS, fun _ _ => rfl⟩
      | 1, _ => exact stepV rfl rfl (execMvB rfl ((hf 1 (by decide)).trans t1)) ⟨s, ⟨_, rfl, rfl⟩, hS, fun _ _ => rfl⟩
      | 2, _ => exact stepV rfl rfl (Aes.execRemI (p := w) (q := n) rfl (hv 0 (by decide) _ rfl _ rfl) (hv 1 (by decide) _ rfl _ rfl) (by omega)) ⟨s, ⟨_, rfl, rfl⟩, hS, fun _ _ => rfl⟩
      | 3, _ => exact stepV rfl rfl (execAsgB rfl (hv 2 (by decide) _ rfl _ rfl)) ⟨s, ⟨_, rfl, rfl⟩, hS, fun _ _ => rfl⟩
      | k_ + 4, h_ => exact absurd h_ (by simp)
    rintro _ a X3 h1 h2 h3 h4 hS
    clear BB
    replace hS : Below V.heap.size V X3 := hS
    have BB := hS
    clear hS
    have t4 : a.eval (.tmp 4) = .int .i64 ((w % n : Nat) : Int) := h4 3 _ rfl _ rfl
    replace A := (⟨h1, h2.trans A.2⟩ : a.tmps.size = 13 ∧ a.defers = [])
    clear h1 h2 h3 h4
    clear t0 t1
    refine wp_ret ?_
    repeat (first | with_reducible refine ret_in ?_ | with_reducible refine ret_then ?_)
    refine bodyPost_ret (results_tmp rfl _ _ _) A.2 ⟨?_, BB⟩
    show Ending.returned (a.eval (.tmp 4)) = _
    rw [t4]
set_option maxRecDepth 100000 in
set_option maxHeartbeats 4000000 in
/-- BraidDeals. -/
theorem deals_any (k c : Int) (df : Nat → Int) (M : Nat) (u2 : Value) (V : World) (FD : SliceI V u2 M df) (hM17 : M ≤ 17592186044416) :
    Calls Try.prog 8 #[.int .i64 k, .int .i64 c, u2] V fun e w' => e = .returned (.bool true) ∧ Below V.heap.size V w' := by
  go_enter Try.func8, Try.ntmps8
  refine wp_seq ?_
  refine wp_region_sqK 238 [(0, 6)] (fun i_ => match i_ with | 0 => .bool false | _ => undef) rfl (by kernel_rfl) (by decide) (by decide) ?_ ?_
  · intro i_ hi_ a hf hv hn
    match i_, hi_ with
    | 0, _ => exact stepV rfl rfl (execAsgB rfl rfl) ⟨⟨_, rfl, rfl⟩, rfl⟩
    | k_ + 1, h_ => exact absurd h_ (by simp)
  intro a h1 h2 h3 h4
  have t0 : a.eval (.tmp 0) = .int .i64 k := (h3 0 (by decide)).trans rfl
  have t1 : a.eval (.tmp 1) = .int .i64 c := (h3 1 (by decide)).trans rfl
  have t2 : a.eval (.tmp 2) = u2 := (h3 2 (by decide)).trans rfl
  have A : a.tmps.size = 238 ∧ a.defers = [] := ⟨h1, h2⟩
  have BW : Below V.heap.size V V := Below.refl _ _
  clear h1 h2 h3 h4
  refine wp_seq ?_
  refine wp_seq ?_
  refine wp_region_sq (σ := Unit) 238 [(0, 27), (1, 28)] (fun j_ s X => match j_ with | 0 => Below V.heap.size V X | 1 => Below V.heap.size V X | _ => Below V.heap.size V X) (fun s => fun i_ => match i_ with | 0 => .bool true | 1 => .bool false | _ => undef) () A.1 (by kernel_rfl) (by decide) (by decide) (Below.refl _ _) ?_ ?_
  · intro i_ hi_ s a X hf hv hn hS
    match i_, hi_ with
    | 0, _ => exact stepC rfl rfl (execCall0 Try.func9 (by kernel_rfl) (by kernel_rfl) rfl ) (awake12 X) fun e w' hh => ⟨_, hh.1, s, ⟨_, rfl, rfl⟩, (hS).trans ((hh.2).mono (hS).size), fun _ _ => rfl⟩
    | 1, _ => exact stepV rfl rfl (execNot8 rfl (hv 0 (by decide) _ rfl _ rfl)) ⟨s, ⟨_, rfl, rfl⟩, hS, fun _ _ => rfl⟩
    | k_ + 2, h_ => exact absurd h_ (by simp)
  rintro _ a X1 h1 h2 h3 h4 hS
  replace hS : Below V.heap.size V X1 := hS
  have bX := hS
  clear hS
  replace t0 := (h3 0 (by decide)).trans t0
  replace t1 := (h3 1 (by decide)).trans t1
  replace t2 := (h3 2 (by decide)).trans t2
  have t28 : a.eval (.tmp 28) = .bool false := h4 1 _ rfl _ rfl
  replace FD := (FD.on bX)
  have ZX1 := bX.size
  replace BW := BW.trans (bX.mono BW.size)
  clear bX
  replace A := (⟨h1, h2.trans A.2⟩ : a.tmps.size = 238 ∧ a.defers = [])
  clear h1 h2 h3 h4
  refine wp_cond_false t28 ?_
  refine wp_skip ?_
  clear t28
  refine wp_seq ?_
  refine wp_region_sq (σ := Value) 238 [(0, 30), (1, 31), (2, 32), (3, 29), (4, 33), (5, 34), (6, 7), (7, 8)] (fun j_ s X => match j_ with | 0 => Below X1.heap.size X1 X | 1 => Below X1.heap.size X1 X | 2 => Below X1.heap.size X1 X | 3 => Below X1.heap.size X1 X ∧ (SliceI X s (zl (szE (k) (c)) (c).toNat) (fun j => (szF (k).toNat (c).toNat j : Int))) | 4 => Below X1.heap.size X1 X ∧ (SliceI X s (zl (szE (k) (c)) (c).toNat) (fun j => (szF (k).toNat (c).toNat j : Int))) | 5 => Below X1.heap.size X1 X ∧ (SliceI X s (zl (szE (k) (c)) (c).toNat) (fun j => (szF (k).toNat (c).toNat j : Int))) | 6 => Below X1.heap.size X1 X ∧ (SliceI X s (zl (szE (k) (c)) (c).toNat) (fun j => (szF (k).toNat (c).toNat j : Int))) | 7 => Below X1.heap.size X1 X ∧ (SliceI X s (zl (szE (k) (c)) (c).toNat) (fun j => (szF (k).toNat (c).toNat j : Int))) | _ => Below X1.heap.size X1 X ∧ (SliceI X s (zl (szE (k) (c)) (c).toNat) (fun j => (szF (k).toNat (c).toNat j : Int)))) (fun s => fun i_ => match i_ with | 0 => .int .i64 k | 1 => .int .i64 c | 2 => .tuple #[s, .int .i64 ((szE (k) (c) : Nat) : Int)] | 3 => .tuple #[s, .int .i64 ((szE (k) (c) : Nat) : Int)] | 4 => s | 5 => .int .i64 ((szE (k) (c) : Nat) : Int) | 6 => s | 7 => .int .i64 ((szE (k) (c) : Nat) : Int) | _ => undef) undef A.1 (by kernel_rfl) (by decide) (by decide) (Below.refl _ _) ?_ ?_
  · intro i_ hi_ s a X hf hv hn hS
    match i_, hi_ with
    | 0, _ => exact stepV rfl rfl (execMvB rfl ((hf 0 (by decide)).trans t0)) ⟨s, ⟨_, rfl, rfl⟩, hS, fun _ _ => rfl⟩
    | 1, _ => exact stepV rfl rfl (execMvB rfl ((hf 1 (by decide)).trans t1)) ⟨s, ⟨_, rfl, rfl⟩, hS, fun _ _ => rfl⟩
    | 2, _ =>
      refine stepC rfl rfl (execCall2 Try.func12 (by kernel_rfl) (by kernel_rfl) rfl (hv 0 (by decide) _ rfl _ rfl) (hv 1 (by decide) _ rfl _ rfl)) (psizes (k) (c) X) fun e w' hh => ?_
      obtain ⟨r0_, he, hk, hb⟩ := hh
      refine ⟨_, he, r0_, ⟨_, rfl, rfl⟩, ⟨(hS).trans ((hb).mono (hS).size), own_ints hk sz_fits⟩, fun i hi => ?_⟩
      match i, hi with
      | 0, _ => rfl
      | 1, _ => rfl
      | n_ + 2, h_ => omega
    | 3, _ => exact stepV rfl rfl (execMvB rfl (hv 2 (by decide) _ rfl _ rfl)) ⟨s, ⟨_, rfl, rfl⟩, hS, fun _ _ => rfl⟩
    | 4, _ => exact stepV rfl rfl (execExtT rfl (hv 3 (by decide) _ rfl _ rfl) rfl) ⟨s, ⟨_, rfl, rfl⟩, hS, fun _ _ => rfl⟩
    | 5, _ => exact stepV rfl rfl (execExtT rfl (hv 3 (by decide) _ rfl _ rfl) rfl) ⟨s, ⟨_, rfl, rfl⟩, hS, fun _ _ => rfl⟩
    | 6, _ => exact stepV rfl rfl (execAsgB rfl (hv 4 (by decide) _ rfl _ rfl)) ⟨s, ⟨_, rfl, rfl⟩, hS, fun _ _ => rfl⟩
    | 7, _ => exact stepV rfl rfl (execAsgB rfl (hv 5 (by decide) _ rfl _ rfl)) ⟨s, ⟨_, rfl, rfl⟩, hS, fun _ _ => rfl⟩
    | k_ + 8, h_ => exact absurd h_ (by simp)
  rintro z32 a X3 h1 h2 h3 h4 hS
  replace hS : Below X1.heap.size X1 X3 ∧ (SliceI X3 z32 (zl (szE (k) (c)) (c).toNat) (fun j => (szF (k).toNat (c).toNat j : Int))) := hS
  obtain ⟨bX, Fz32⟩ := hS
  replace t0 := (h3 0 (by decide)).trans t0
  replace t1 := (h3 1 (by decide)).trans t1
  replace t2 := (h3 2 (by decide)).trans t2
  have t7 : a.eval (.tmp 7) = z32 := h4 6 _ rfl _ rfl
  have t8 : a.eval (.tmp 8) = .int .i64 ((szE (k) (c) : Nat) : Int) := h4 7 _ rfl _ rfl
  replace FD := (FD.on bX)
  have ZX3 := bX.size
  replace BW := BW.trans (bX.mono BW.size)
  clear bX
  replace A := (⟨h1, h2.trans A.2⟩ : a.tmps.size = 238 ∧ a.defers = [])
  clear h1 h2 h3 h4
  by_cases ha : k < 0
  · have hE : szE k c = 2 := if_neg (by omega)
    rw [hE] at t8
    refine wp_seq ?_
    refine wp_seq ?_
    refine wp_region_sq (σ := Unit) 238 [(0, 35), (1, 36), (2, 37), (3, 38), (4, 39), (5, 40), (6, 41), (7, 42), (8, 43), (9, 44), (10, 45), (11, 46), (12, 47), (13, 48), (14, 49), (15, 50), (16, 51)] (fun j_ s X => match j_ with | 0 => Below X3.heap.size X3 X | 1 => Below X3.heap.size X3 X | 2 => Below X3.heap.size X3 X | 3 => Below X3.heap.size X3 X | 4 => Below X3.heap.size X3 X | 5 => Below X3.heap.size X3 X | 6 => Below X3.heap.size X3 X | 7 => Below X3.heap.size X3 X | 8 => Below X3.heap.size X3 X | 9 => Below X3.heap.size X3 X | 10 => Below X3.heap.size X3 X | 11 => Below X3.heap.size X3 X | 12 => Below X3.heap.size X3 X | 13 => Below X3.heap.size X3 X | 14 => Below X3.heap.size X3 X | 15 => Below X3.heap.size X3 X | 16 => Below X3.heap.size X3 X | _ => Below X3.heap.size X3 X) (fun s => fun i_ => match i_ with | 0 => .int .i64 ((2 : Nat) : Int) | 1 => .bool false | 2 => .int .i64 k | 3 => .bool false | 4 => .bool false | 5 => undef | 6 => undef | 7 => .bool false | 8 => .bool false | 9 => undef | 10 => undef | 11 => .bool false | 12 => .bool false | 13 => undef | 14 => undef | 15 => .bool false | 16 => .bool false | _ => undef) () A.1 (by kernel_rfl) (by decide) (by decide) (Below.refl _ _) ?_ ?_
    · intro i_ hi_ s a X hf hv hn hS
      match i_, hi_ with
      | 0, _ => exact stepV rfl rfl (execMvB rfl ((hf 8 (by decide)).trans t8)) ⟨s, ⟨_, rfl, rfl⟩, hS, fun _ _ => rfl⟩
      | 1, _ => exact stepV rfl rfl (execDec (execEqE (p := 2) (q := 0) rfl (hv 0 (by decide) _ rfl _ rfl) rfl) (decide_eq_false (by decide))) ⟨s, ⟨_, rfl, rfl⟩, hS, fun _ _ => rfl⟩
      | 2, _ => exact stepV rfl rfl (execMvB rfl ((hf 0 (by decide)).trans t0)) ⟨s, ⟨_, rfl, rfl⟩, hS, fun _ _ => rfl⟩
      | 3, _ => exact stepV rfl rfl (execGeIf (p := k) (q := 0) rfl (hv 2 (by decide) _ rfl _ rfl) rfl (by omega)) ⟨s, ⟨_, rfl, rfl⟩, hS, fun _ _ => rfl⟩
      | 4, _ => exact stepV rfl rfl (execMvB rfl (hv 3 (by decide) _ rfl _ rfl)) ⟨s, ⟨_, rfl, rfl⟩, hS, fun _ _ => rfl⟩
      | 5, _ => exact stepU rfl (unwantedOf rfl (yieldedAt rfl rfl (show a.eval (.tmp 39) = .bool (!true) from (hv 4 (by decide) _ rfl _ rfl)))) ⟨s, ⟨_, rfl, rfl⟩, hS, fun _ _ => rfl⟩
      | 6, _ => exact stepU rfl (unwantedOf rfl (yieldedAt rfl rfl (show a.eval (.tmp 39) = .bool (!true) from (hv 4 (by decide) _ rfl _ rfl)))) ⟨s, ⟨_, rfl, rfl⟩, hS, fun _ _ => rfl⟩
      | 7, _ => exact stepV rfl rfl (execPickF rfl (hv 4 (by decide) _ rfl _ rfl) rfl) ⟨s, ⟨_, rfl, rfl⟩, hS, fun _ _ => rfl⟩
      | 8, _ => exact stepV rfl rfl (execMvB rfl (hv 7 (by decide) _ rfl _ rfl)) ⟨s, ⟨_, rfl, rfl⟩, hS, fun _ _ => rfl⟩
      | 9, _ => exact stepU rfl (unwantedOf rfl (yieldedAt rfl rfl (show a.eval (.tmp 43) = .bool (!true) from (hv 8 (by decide) _ rfl _ rfl)))) ⟨s, ⟨_, rfl, rfl⟩, hS, fun _ _ => rfl⟩
      | 10, _ => exact stepU rfl (unwantedOf rfl (yieldedAt rfl rfl (show a.eval (.tmp 43) = .bool (!true) from (hv 8 (by decide) _ rfl _ rfl)))) ⟨s, ⟨_, rfl, rfl⟩, hS, fun _ _ => rfl⟩
      | 11, _ => exact stepV rfl rfl (execPickF rfl (hv 8 (by decide) _ rfl _ rfl) rfl) ⟨s, ⟨_, rfl, rfl⟩, hS, fun _ _ => rfl⟩
      | 12, _ => exact stepV rfl rfl (execMvB rfl (hv 11 (by decide) _ rfl _ rfl)) ⟨s, ⟨_, rfl, rfl⟩, hS, fun _ _ => rfl⟩
      | 13, _ => exact stepU rfl (unwantedOf rfl (yieldedAt rfl rfl (show a.eval (.tmp 47) = .bool (!true) from (hv 12 (by decide) _ rfl _ rfl)))) ⟨s, ⟨_, rfl, rfl⟩, hS, fun _ _ => rfl⟩
      | 14, _ => exact stepU rfl (unwantedOf rfl (yieldedAt rfl rfl (show a.eval (.tmp 47) = .bool (!true) from (hv 12 (by decide) _ rfl _ rfl)))) ⟨s, ⟨_, rfl, rfl⟩, hS, fun _ _ => rfl⟩
      | 15, _ => exact stepV rfl rfl (execPickF rfl (hv 12 (by decide) _ rfl _ rfl) rfl) ⟨s, ⟨_, rfl, rfl⟩, hS, fun _ _ => rfl⟩
      | 16, _ => exact stepV rfl rfl (execNeBB rfl (hv 1 (by decide) _ rfl _ rfl) (hv 15 (by decide) _ rfl _ rfl)) ⟨s, ⟨_, rfl, rfl⟩, hS, fun _ _ => rfl⟩
      | k_ + 17, h_ => exact absurd h_ (by simp)
    rintro _ a X4 h1 h2 h3 h4 hS
    replace hS : Below X3.heap.size X3 X4 := hS
    have bX := hS
    clear hS
    replace t0 := (h3 0 (by decide)).trans t0
    replace t1 := (h3 1 (by decide)).trans t1
    replace t2 := (h3 2 (by decide)).trans t2
    replace t7 := (h3 7 (by decide)).trans t7
    replace t8 := (h3 8 (by decide)).trans t8
    have t51 : a.eval (.tmp 51) = .bool false := h4 16 _ rfl _ rfl
    replace FD := (FD.on bX)
    replace Fz32 := (Fz32.on bX)
    have ZX4 := bX.size
    replace BW := BW.trans (bX.mono BW.size)
    clear bX
    replace A := (⟨h1, h2.trans A.2⟩ : a.tmps.size = 238 ∧ a.defers = [])
    clear h1 h2 h3 h4
    refine wp_cond_false t51 ?_
    refine wp_skip ?_
    clear t51
    refine wp_seq ?_
    refine wp_seq ?_
    refine wp_region_sq (σ := Unit) 238 [(0, 52), (1, 53)] (fun j_ s X => match j_ with | 0 => Below X4.heap.size X4 X | 1 => Below X4.heap.size X4 X | _ => Below X4.heap.size X4 X) (fun s => fun i_ => match i_ with | 0 => .int .i64 ((2 : Nat) : Int) | 1 => .bool true | _ => undef) () A.1 (by kernel_rfl) (by decide) (by decide) (Below.refl _ _) ?_ ?_
    · intro i_ hi_ s a X hf hv hn hS
      match i_, hi_ with
      | 0, _ => exact stepV rfl rfl (execMvB rfl ((hf 8 (by decide)).trans t8)) ⟨s, ⟨_, rfl, rfl⟩, hS, fun _ _ => rfl⟩
      | 1, _ => exact stepV rfl rfl (execDec (execNeE (p := 2) (q := 0) rfl (hv 0 (by decide) _ rfl _ rfl) rfl) (decide_eq_true (by decide))) ⟨s, ⟨_, rfl, rfl⟩, hS, fun _ _ => rfl⟩
      | k_ + 2, h_ => exact absurd h_ (by simp)
    rintro _ a X6 h1 h2 h3 h4 hS
    replace hS : Below X4.heap.size X4 X6 := hS
    have bX := hS
    clear hS
    replace t0 := (h3 0 (by decide)).trans t0
    replace t1 := (h3 1 (by decide)).trans t1
    replace t2 := (h3 2 (by decide)).trans t2
    replace t7 := (h3 7 (by decide)).trans t7
    replace t8 := (h3 8 (by decide)).trans t8
    have t53 : a.eval (.tmp 53) = .bool true := h4 1 _ rfl _ rfl
    replace FD := (FD.on bX)
    replace Fz32 := (Fz32.on bX)
    have ZX6 := bX.size
    replace BW := BW.trans (bX.mono BW.size)
    clear bX
    replace A := (⟨h1, h2.trans A.2⟩ : a.tmps.size = 238 ∧ a.defers = [])
    clear h1 h2 h3 h4
    refine wp_cond_true t53 ?_
    clear t53
    refine wp_seq ?_
    replace Fz32 : (SliceI X6 z32 (0) (fun j => (szF (k).toNat (c).toNat j : Int))) := (by have h_ := Fz32; rw [hE, zl_no (by decide)] at h_; exact h_)
    refine wp_region_sq (σ := Unit) 238 [(0, 54), (1, 55), (2, 56), (3, 57), (4, 58), (5, 59), (6, 60), (7, 6)] (fun j_ s X => match j_ with | 0 => Below X6.heap.size X6 X | 1 => Below X6.heap.size X6 X | 2 => Below X6.heap.size X6 X | 3 => Below X6.heap.size X6 X | 4 => Below X6.heap.size X6 X | 5 => Below X6.heap.size X6 X | 6 => Below X6.heap.size X6 X | 7 => Below X6.heap.size X6 X | _ => Below X6.heap.size X6 X) (fun s => fun i_ => match i_ with | 0 => .int .i64 ((2 : Nat) : Int) | 1 => .bool true | 2 => .bool true | 3 => z32 | 4 => .int .i64 ((0 : Nat) : Int) | 5 => .bool true | 6 => .bool true | 7 => .bool true | _ => undef) () A.1 (by kernel_rfl) (by decide) (by decide) (Below.refl _ _) ?_ ?_
    · intro i_ hi_ s a X hf hv hn hS
      match i_, hi_ with
      | 0, _ => exact stepV rfl rfl (execMvB rfl ((hf 8 (by decide)).trans t8)) ⟨s, ⟨_, rfl, rfl⟩, hS, fun _ _ => rfl⟩
      | 1, _ => exact stepV rfl rfl (execDec (execEqE (p := 2) (q := 2) rfl (hv 0 (by decide) _ rfl _ rfl) rfl) (decide_eq_true (by decide))) ⟨s, ⟨_, rfl, rfl⟩, hS, fun _ _ => rfl⟩
      | 2, _ => exact stepV rfl rfl (execMvB rfl (hv 1 (by decide) _ rfl _ rfl)) ⟨s, ⟨_, rfl, rfl⟩, hS, fun _ _ => rfl⟩
      | 3, _ => exact stepV rfl (wantedOf rfl (yieldedAt rfl rfl (show a.eval (.tmp 56) = .bool true from (hv 2 (by decide) _ rfl _ rfl)))) (execMvB rfl ((hf 7 (by decide)).trans t7)) ⟨s, ⟨_, rfl, rfl⟩, hS, fun _ _ => rfl⟩
      | 4, _ => exact stepV rfl (wantedOf rfl (yieldedAt rfl rfl (show a.eval (.tmp 56) = .bool true from (hv 2 (by decide) _ rfl _ rfl)))) (execLenI (len := 0) rfl (hv 3 (by decide) _ rfl _ rfl) ((Fz32.on hS)).shp) ⟨s, ⟨_, rfl, rfl⟩, hS, fun _ _ => rfl⟩
      | 5, _ => exact stepV rfl (wantedOf rfl (yieldedAt rfl rfl (show a.eval (.tmp 56) = .bool true from (hv 2 (by decide) _ rfl _ rfl)))) (execDec (execEqN (p := 0) (q := 0) rfl (hv 4 (by decide) _ rfl _ rfl) rfl) (decide_eq_true (by decide))) ⟨s, ⟨_, rfl, rfl⟩, hS, fun _ _ => rfl⟩
      | 6, _ => exact stepV rfl rfl (execPickT rfl (hv 2 (by decide) _ rfl _ rfl) (hv 5 (by decide) _ rfl _ rfl)) ⟨s, ⟨_, rfl, rfl⟩, hS, fun _ _ => rfl⟩
      | 7, _ => exact stepV rfl rfl (execAsgB rfl (hv 6 (by decide) _ rfl _ rfl)) ⟨s, ⟨_, rfl, rfl⟩, hS, fun _ _ => rfl⟩
      | k_ + 8, h_ => exact absurd h_ (by simp)
    rintro _ a X7 h1 h2 h3 h4 hS
    replace hS : Below X6.heap.size X6 X7 := hS
    have bX := hS
    clear hS
    have t6 : a.eval (.tmp 6) = .bool true := h4 7 _ rfl _ rfl
    replace FD := (FD.on bX)
    replace Fz32 := (Fz32.on bX)
    have ZX7 := bX.size
    replace BW := BW.trans (bX.mono BW.size)
    clear bX
    replace A := (⟨h1, h2.trans A.2⟩ : a.tmps.size = 238 ∧ a.defers = [])
    clear h1 h2 h3 h4
    clear t0 t1 t2 t7 t8
    refine wp_ret ?_
    repeat (first | with_reducible refine ret_in ?_ | with_reducible refine ret_then ?_)
    refine bodyPost_ret (results_tmp rfl _ _ _) A.2 ⟨?_, BW⟩
    show Ending.returned (a.eval (.tmp 6)) = _
    rw [t6]
  · by_cases hb : 256 < k
    · have hE : szE k c = 2 := if_neg (by omega)
      rw [hE] at t8
      refine wp_seq ?_
      refine wp_seq ?_
      refine wp_region_sq (σ := Unit) 238 [(0, 35), (1, 36), (2, 37), (3, 38), (4, 39), (5, 40), (6, 41), (7, 42), (8, 43), (9, 44), (10, 45), (11, 46), (12, 47), (13, 48), (14, 49), (15, 50), (16, 51)] (fun j_ s X => match j_ with | 0 => Below X3.heap.size X3 X | 1 => Below X3.heap.size X3 X | 2 => Below X3.heap.size X3 X | 3 => Below X3.heap.size X3 X | 4 => Below X3.heap.size X3 X | 5 => Below X3.heap.size X3 X | 6 => Below X3.heap.size X3 X | 7 => Below X3.heap.size X3 X | 8 => Below X3.heap.size X3 X | 9 => Below X3.heap.size X3 X | 10 => Below X3.heap.size X3 X | 11 => Below X3.heap.size X3 X | 12 => Below X3.heap.size X3 X | 13 => Below X3.heap.size X3 X | 14 => Below X3.heap.size X3 X | 15 => Below X3.heap.size X3 X | 16 => Below X3.heap.size X3 X | _ => Below X3.heap.size X3 X) (fun s => fun i_ => match i_ with | 0 => .int .i64 ((2 : Nat) : Int) | 1 => .bool false | 2 => .int .i64 k | 3 => .bool true | 4 => .bool true | 5 => .int .i64 k | 6 => .bool false | 7 => .bool false | 8 => .bool false | 9 => undef | 10 => undef | 11 => .bool false | 12 => .bool false | 13 => undef | 14 => undef | 15 => .bool false | 16 => .bool false | _ => undef) () A.1 (by kernel_rfl) (by decide) (by decide) (Below.refl _ _) ?_ ?_
      · intro i_ hi_ s a X hf hv hn hS
        match i_, hi_ with
        | 0, _ => exact stepV rfl rfl (execMvB rfl ((hf 8 (by decide)).trans t8)) ⟨s, ⟨_, rfl, rfl⟩, hS, fun _ _ => rfl⟩
        | 1, _ => exact stepV rfl rfl (execDec (execEqE (p := 2) (q := 0) rfl (hv 0 (by decide) _ rfl _ rfl) rfl) (decide_eq_false (by decide))) ⟨s, ⟨_, rfl, rfl⟩, hS, fun _ _ => rfl⟩
        | 2, _ => exact stepV rfl rfl (execMvB rfl ((hf 0 (by decide)).trans t0)) ⟨s, ⟨_, rfl, rfl⟩, hS, fun _ _ => rfl⟩
        | 3, _ => exact stepV rfl rfl (execGeIt (p := k) (q := 0) rfl (hv 2 (by decide) _ rfl _ rfl) rfl (by omega)) ⟨s, ⟨_, rfl, rfl⟩, hS, fun _ _ => rfl⟩
        | 4, _ => exact stepV rfl rfl (execMvB rfl (hv 3 (by decide) _ rfl _ rfl)) ⟨s, ⟨_, rfl, rfl⟩, hS, fun _ _ => rfl⟩
        | 5, _ => exact stepV rfl (wantedOf rfl (yieldedAt rfl rfl (show a.eval (.tmp 39) = .bool true from (hv 4 (by decide) _ rfl _ rfl)))) (execMvB rfl ((hf 0 (by decide)).trans t0)) ⟨s, ⟨_, rfl, rfl⟩, hS, fun _ _ => rfl⟩
        | 6, _ => exact stepV rfl (wantedOf rfl (yieldedAt rfl rfl (show a.eval (.tmp 39) = .bool true from (hv 4 (by decide) _ rfl _ rfl)))) (execLeIf (p := k) (q := 256) rfl (hv 5 (by decide) _ rfl _ rfl) rfl (by omega)) ⟨s, ⟨_, rfl, rfl⟩, hS, fun _ _ => rfl⟩
        | 7, _ => exact stepV rfl rfl (execPickT rfl (hv 4 (by decide) _ rfl _ rfl) (hv 6 (by decide) _ rfl _ rfl)) ⟨s, ⟨_, rfl, rfl⟩, hS, fun _ _ => rfl⟩
        | 8, _ => exact stepV rfl rfl (execMvB rfl (hv 7 (by decide) _ rfl _ rfl)) ⟨s, ⟨_, rfl, rfl⟩, hS, fun _ _ => rfl⟩
        | 9, _ => exact stepU rfl (unwantedOf rfl (yieldedAt rfl rfl (show a.eval (.tmp 43) = .bool (!true) from (hv 8 (by decide) _ rfl _ rfl)))) ⟨s, ⟨_, rfl, rfl⟩, hS, fun _ _ => rfl⟩
        | 10, _ => exact stepU rfl (unwantedOf rfl (yieldedAt rfl rfl (show a.eval (.tmp 43) = .bool (!true) from (hv 8 (by decide) _ rfl _ rfl)))) ⟨s, ⟨_, rfl, rfl⟩, hS, fun _ _ => rfl⟩
        | 11, _ => exact stepV rfl rfl (execPickF rfl (hv 8 (by decide) _ rfl _ rfl) rfl) ⟨s, ⟨_, rfl, rfl⟩, hS, fun _ _ => rfl⟩
        | 12, _ => exact stepV rfl rfl (execMvB rfl (hv 11 (by decide) _ rfl _ rfl)) ⟨s, ⟨_, rfl, rfl⟩, hS, fun _ _ => rfl⟩
        | 13, _ => exact stepU rfl (unwantedOf rfl (yieldedAt rfl rfl (show a.eval (.tmp 47) = .bool (!true) from (hv 12 (by decide) _ rfl _ rfl)))) ⟨s, ⟨_, rfl, rfl⟩, hS, fun _ _ => rfl⟩
        | 14, _ => exact stepU rfl (unwantedOf rfl (yieldedAt rfl rfl (show a.eval (.tmp 47) = .bool (!true) from (hv 12 (by decide) _ rfl _ rfl)))) ⟨s, ⟨_, rfl, rfl⟩, hS, fun _ _ => rfl⟩
        | 15, _ => exact stepV rfl rfl (execPickF rfl (hv 12 (by decide) _ rfl _ rfl) rfl) ⟨s, ⟨_, rfl, rfl⟩, hS, fun _ _ => rfl⟩
        | 16, _ => exact stepV rfl rfl (execNeBB rfl (hv 1 (by decide) _ rfl _ rfl) (hv 15 (by decide) _ rfl _ rfl)) ⟨s, ⟨_, rfl, rfl⟩, hS, fun _ _ => rfl⟩
        | k_ + 17, h_ => exact absurd h_ (by simp)
      rintro _ a X4 h1 h2 h3 h4 hS
      replace hS : Below X3.heap.size X3 X4 := hS
      have bX := hS
      clear hS
      replace t0 := (h3 0 (by decide)).trans t0
      replace t1 := (h3 1 (by decide)).trans t1
      replace t2 := (h3 2 (by decide)).trans t2
      replace t7 := (h3 7 (by decide)).trans t7
      replace t8 := (h3 8 (by decide)).trans t8
      have t51 : a.eval (.tmp 51) = .bool false := h4 16 _ rfl _ rfl
      replace FD := (FD.on bX)
      replace Fz32 := (Fz32.on bX)
      have ZX4 := bX.size
      replace BW := BW.trans (bX.mono BW.size)
      clear bX
      replace A := (⟨h1, h2.trans A.2⟩ : a.tmps.size = 238 ∧ a.defers = [])
      clear h1 h2 h3 h4
      refine wp_cond_false t51 ?_
      refine wp_skip ?_
      clear t51
      refine wp_seq ?_
      refine wp_seq ?_
      refine wp_region_sq (σ := Unit) 238 [(0, 52), (1, 53)] (fun j_ s X => match j_ with | 0 => Below X4.heap.size X4 X | 1 => Below X4.heap.size X4 X | _ => Below X4.heap.size X4 X) (fun s => fun i_ => match i_ with | 0 => .int .i64 ((2 : Nat) : Int) | 1 => .bool true | _ => undef) () A.1 (by kernel_rfl) (by decide) (by decide) (Below.refl _ _) ?_ ?_
      · intro i_ hi_ s a X hf hv hn hS
        match i_, hi_ with
        | 0, _ => exact stepV rfl rfl (execMvB rfl ((hf 8 (by decide)).trans t8)) ⟨s, ⟨_, rfl, rfl⟩, hS, fun _ _ => rfl⟩
        | 1, _ => exact stepV rfl rfl (execDec (execNeE (p := 2) (q := 0) rfl (hv 0 (by decide) _ rfl _ rfl) rfl) (decide_eq_true (by decide))) ⟨s, ⟨_, rfl, rfl⟩, hS, fun _ _ => rfl⟩
        | k_ + 2, h_ => exact absurd h_ (by simp)
      rintro _ a X6 h1 h2 h3 h4 hS
      replace hS : Below X4.heap.size X4 X6 := hS
      have bX := hS
      clear hS
      replace t0 := (h3 0 (by decide)).trans t0
      replace t1 := (h3 1 (by decide)).trans t1
      replace t2 := (h3 2 (by decide)).trans t2
      replace t7 := (h3 7 (by decide)).trans t7
      replace t8 := (h3 8 (by decide)).trans t8
      have t53 : a.eval (.tmp 53) = .bool true := h4 1 _ rfl _ rfl
      replace FD := (FD.on bX)
      replace Fz32 := (Fz32.on bX)
      have ZX6 := bX.size
      replace BW := BW.trans (bX.mono BW.size)
      clear bX
      replace A := (⟨h1, h2.trans A.2⟩ : a.tmps.size = 238 ∧ a.defers = [])
      clear h1 h2 h3 h4
      refine wp_cond_true t53 ?_
      clear t53
      refine wp_seq ?_
      replace Fz32 : (SliceI X6 z32 (0) (fun j => (szF (k).toNat (c).toNat j : Int))) := (by have h_ := Fz32; rw [hE, zl_no (by decide)] at h_; exact h_)
      refine wp_region_sq (σ := Unit) 238 [(0, 54), (1, 55), (2, 56), (3, 57), (4, 58), (5, 59), (6, 60), (7, 6)] (fun j_ s X => match j_ with | 0 => Below X6.heap.size X6 X | 1 => Below X6.heap.size X6 X | 2 => Below X6.heap.size X6 X | 3 => Below X6.heap.size X6 X | 4 => Below X6.heap.size X6 X | 5 => Below X6.heap.size X6 X | 6 => Below X6.heap.size X6 X | 7 => Below X6.heap.size X6 X | _ => Below X6.heap.size X6 X) (fun s => fun i_ => match i_ with | 0 => .int .i64 ((2 : Nat) : Int) | 1 => .bool true | 2 => .bool true | 3 => z32 | 4 => .int .i64 ((0 : Nat) : Int) | 5 => .bool true | 6 => .bool true | 7 => .bool true | _ => undef) () A.1 (by kernel_rfl) (by decide) (by decide) (Below.refl _ _) ?_ ?_
      · intro i_ hi_ s a X hf hv hn hS
        match i_, hi_ with
        | 0, _ => exact stepV rfl rfl (execMvB rfl ((hf 8 (by decide)).trans t8)) ⟨s, ⟨_, rfl, rfl⟩, hS, fun _ _ => rfl⟩
        | 1, _ => exact stepV rfl rfl (execDec (execEqE (p := 2) (q := 2) rfl (hv 0 (by decide) _ rfl _ rfl) rfl) (decide_eq_true (by decide))) ⟨s, ⟨_, rfl, rfl⟩, hS, fun _ _ => rfl⟩
        | 2, _ => exact stepV rfl rfl (execMvB rfl (hv 1 (by decide) _ rfl _ rfl)) ⟨s, ⟨_, rfl, rfl⟩, hS, fun _ _ => rfl⟩
        | 3, _ => exact stepV rfl (wantedOf rfl (yieldedAt rfl rfl (show a.eval (.tmp 56) = .bool true from (hv 2 (by decide) _ rfl _ rfl)))) (execMvB rfl ((hf 7 (by decide)).trans t7)) ⟨s, ⟨_, rfl, rfl⟩, hS, fun _ _ => rfl⟩
        | 4, _ => exact stepV rfl (wantedOf rfl (yieldedAt rfl rfl (show a.eval (.tmp 56) = .bool true from (hv 2 (by decide) _ rfl _ rfl)))) (execLenI (len := 0) rfl (hv 3 (by decide) _ rfl _ rfl) ((Fz32.on hS)).shp) ⟨s, ⟨_, rfl, rfl⟩, hS, fun _ _ => rfl⟩
        | 5, _ => exact stepV rfl (wantedOf rfl (yieldedAt rfl rfl (show a.eval (.tmp 56) = .bool true from (hv 2 (by decide) _ rfl _ rfl)))) (execDec (execEqN (p := 0) (q := 0) rfl (hv 4 (by decide) _ rfl _ rfl) rfl) (decide_eq_true (by decide))) ⟨s, ⟨_, rfl, rfl⟩, hS, fun _ _ => rfl⟩
        | 6, _ => exact stepV rfl rfl (execPickT rfl (hv 2 (by decide) _ rfl _ rfl) (hv 5 (by decide) _ rfl _ rfl)) ⟨s, ⟨_, rfl, rfl⟩, hS, fun _ _ => rfl⟩
        | 7, _ => exact stepV rfl rfl (execAsgB rfl (hv 6 (by decide) _ rfl _ rfl)) ⟨s, ⟨_, rfl, rfl⟩, hS, fun _ _ => rfl⟩
        | k_ + 8, h_ => exact absurd h_ (by simp)
      rintro _ a X7 h1 h2 h3 h4 hS
      replace hS : Below X6.heap.size X6 X7 := hS
      have bX := hS
      clear hS
      have t6 : a.eval (.tmp 6) = .bool true := h4 7 _ rfl _ rfl
      replace FD := (FD.on bX)
      replace Fz32 := (Fz32.on bX)
      have ZX7 := bX.size
      replace BW := BW.trans (bX.mono BW.size)
      clear bX
      replace A := (⟨h1, h2.trans A.2⟩ : a.tmps.size = 238 ∧ a.defers = [])
      clear h1 h2 h3 h4
      clear t0 t1 t2 t7 t8
      refine wp_ret ?_
      repeat (first | with_reducible refine ret_in ?_ | with_reducible refine ret_then ?_)
      refine bodyPost_ret (results_tmp rfl _ _ _) A.2 ⟨?_, BW⟩
      show Ending.returned (a.eval (.tmp 6)) = _
      rw [t6]
    · by_cases hc : c < 1
      · have hE : szE k c = 2 := if_neg (by omega)
        rw [hE] at t8
        refine wp_seq ?_
        refine wp_seq ?_
        refine wp_region_sq (σ := Unit) 238 [(0, 35), (1, 36), (2, 37), (3, 38), (4, 39), (5, 40), (6, 41), (7, 42), (8, 43), (9, 44), (10, 45), (11, 46), (12, 47), (13, 48), (14, 49), (15, 50), (16, 51)] (fun j_ s X => match j_ with | 0 => Below X3.heap.size X3 X | 1 => Below X3.heap.size X3 X | 2 => Below X3.heap.size X3 X | 3 => Below X3.heap.size X3 X | 4 => Below X3.heap.size X3 X | 5 => Below X3.heap.size X3 X | 6 => Below X3.heap.size X3 X | 7 => Below X3.heap.size X3 X | 8 => Below X3.heap.size X3 X | 9 => Below X3.heap.size X3 X | 10 => Below X3.heap.size X3 X | 11 => Below X3.heap.size X3 X | 12 => Below X3.heap.size X3 X | 13 => Below X3.heap.size X3 X | 14 => Below X3.heap.size X3 X | 15 => Below X3.heap.size X3 X | 16 => Below X3.heap.size X3 X | _ => Below X3.heap.size X3 X) (fun s => fun i_ => match i_ with | 0 => .int .i64 ((2 : Nat) : Int) | 1 => .bool false | 2 => .int .i64 k | 3 => .bool true | 4 => .bool true | 5 => .int .i64 k | 6 => .bool true | 7 => .bool true | 8 => .bool true | 9 => .int .i64 c | 10 => .bool false | 11 => .bool false | 12 => .bool false | 13 => undef | 14 => undef | 15 => .bool false | 16 => .bool false | _ => undef) () A.1 (by kernel_rfl) (by decide) (by decide) (Below.refl _ _) ?_ ?_
        · intro i_ hi_ s a X hf hv hn hS
          match i_, hi_ with
          | 0, _ => exact stepV rfl rfl (execMvB rfl ((hf 8 (by decide)).trans t8)) ⟨s, ⟨_, rfl, rfl⟩, hS, fun _ _ => rfl⟩
          | 1, _ => exact stepV rfl rfl (execDec (execEqE (p := 2) (q := 0) rfl (hv 0 (by decide) _ rfl _ rfl) rfl) (decide_eq_false (by decide))) ⟨s, ⟨_, rfl, rfl⟩, hS, fun _ _ => rfl⟩
          | 2, _ => exact stepV rfl rfl (execMvB rfl ((hf 0 (by decide)).trans t0)) ⟨s, ⟨_, rfl, rfl⟩, hS, fun _ _ => rfl⟩
          | 3, _ => exact stepV rfl rfl (execGeIt (p := k) (q := 0) rfl (hv 2 (by decide) _ rfl _ rfl) rfl (by omega)) ⟨s, ⟨_, rfl, rfl⟩, hS, fun _ _ => rfl⟩
          | 4, _ => exact stepV rfl rfl (execMvB rfl (hv 3 (by decide) _ rfl _ rfl)) ⟨s, ⟨_, rfl, rfl⟩, hS, fun _ _ => rfl⟩
          | 5, _ => exact stepV rfl (wantedOf rfl (yieldedAt rfl rfl (show a.eval (.tmp 39) = .bool true from (hv 4 (by decide) _ rfl _ rfl)))) (execMvB rfl ((hf 0 (by decide)).trans t0)) ⟨s, ⟨_, rfl, rfl⟩, hS, fun _ _ => rfl⟩
          | 6, _ => exact stepV rfl (wantedOf rfl (yieldedAt rfl rfl (show a.eval (.tmp 39) = .bool true from (hv 4 (by decide) _ rfl _ rfl)))) (execLeIt (p := k) (q := 256) rfl (hv 5 (by decide) _ rfl _ rfl) rfl (by omega)) ⟨s, ⟨_, rfl, rfl⟩, hS, fun _ _ => rfl⟩
          | 7, _ => exact stepV rfl rfl (execPickT rfl (hv 4 (by decide) _ rfl _ rfl) (hv 6 (by decide) _ rfl _ rfl)) ⟨s, ⟨_, rfl, rfl⟩, hS, fun _ _ => rfl⟩
          | 8, _ => exact stepV rfl rfl (execMvB rfl (hv 7 (by decide) _ rfl _ rfl)) ⟨s, ⟨_, rfl, rfl⟩, hS, fun _ _ => rfl⟩
          | 9, _ => exact stepV rfl (wantedOf rfl (yieldedAt rfl rfl (show a.eval (.tmp 43) = .bool true from (hv 8 (by decide) _ rfl _ rfl)))) (execMvB rfl ((hf 1 (by decide)).trans t1)) ⟨s, ⟨_, rfl, rfl⟩, hS, fun _ _ => rfl⟩
          | 10, _ => exact stepV rfl (wantedOf rfl (yieldedAt rfl rfl (show a.eval (.tmp 43) = .bool true from (hv 8 (by decide) _ rfl _ rfl)))) (execGeIf (p := c) (q := 1) rfl (hv 9 (by decide) _ rfl _ rfl) rfl (by omega)) ⟨s, ⟨_, rfl, rfl⟩, hS, fun _ _ => rfl⟩
          | 11, _ => exact stepV rfl rfl (execPickT rfl (hv 8 (by decide) _ rfl _ rfl) (hv 10 (by decide) _ rfl _ rfl)) ⟨s, ⟨_, rfl, rfl⟩, hS, fun _ _ => rfl⟩
          | 12, _ => exact stepV rfl rfl (execMvB rfl (hv 11 (by decide) _ rfl _ rfl)) ⟨s, ⟨_, rfl, rfl⟩, hS, fun _ _ => rfl⟩
          | 13, _ => exact stepU rfl (unwantedOf rfl (yieldedAt rfl rfl (show a.eval (.tmp 47) = .bool (!true) from (hv 12 (by decide) _ rfl _ rfl)))) ⟨s, ⟨_, rfl, rfl⟩, hS, fun _ _ => rfl⟩
          | 14, _ => exact stepU rfl (unwantedOf rfl (yieldedAt rfl rfl (show a.eval (.tmp 47) = .bool (!true) from (hv 12 (by decide) _ rfl _ rfl)))) ⟨s, ⟨_, rfl, rfl⟩, hS, fun _ _ => rfl⟩
          | 15, _ => exact stepV rfl rfl (execPickF rfl (hv 12 (by decide) _ rfl _ rfl) rfl) ⟨s, ⟨_, rfl, rfl⟩, hS, fun _ _ => rfl⟩
          | 16, _ => exact stepV rfl rfl (execNeBB rfl (hv 1 (by decide) _ rfl _ rfl) (hv 15 (by decide) _ rfl _ rfl)) ⟨s, ⟨_, rfl, rfl⟩, hS, fun _ _ => rfl⟩
          | k_ + 17, h_ => exact absurd h_ (by simp)
        rintro _ a X4 h1 h2 h3 h4 hS
        replace hS : Below X3.heap.size X3 X4 := hS
        have bX := hS
        clear hS
        replace t0 := (h3 0 (by decide)).trans t0
        replace t1 := (h3 1 (by decide)).trans t1
        replace t2 := (h3 2 (by decide)).trans t2
        replace t7 := (h3 7 (by decide)).trans t7
        replace t8 := (h3 8 (by decide)).trans t8
        have t51 : a.eval (.tmp 51) = .bool false := h4 16 _ rfl _ rfl
        replace FD := (FD.on bX)
        replace Fz32 := (Fz32.on bX)
        have ZX4 := bX.size
        replace BW := BW.trans (bX.mono BW.size)
        clear bX
        replace A := (⟨h1, h2.trans A.2⟩ : a.tmps.size = 238 ∧ a.defers = [])
        clear h1 h2 h3 h4
        refine wp_cond_false t51 ?_
        refine wp_skip ?_
        clear t51
        refine wp_seq ?_
        refine wp_seq ?_
        refine wp_region_sq (σ := Unit) 238 [(0, 52), (1, 53)] (fun j_ s X => match j_ with | 0 => Below X4.heap.size X4 X | 1 => Below X4.heap.size X4 X | _ => Below X4.heap.size X4 X) (fun s => fun i_ => match i_ with | 0 => .int .i64 ((2 : Nat) : Int) | 1 => .bool true | _ => undef) () A.1 (by kernel_rfl) (by decide) (by decide) (Below.refl _ _) ?_ ?_
        · intro i_ hi_ s a X hf hv hn hS
          match i_, hi_ with
          | 0, _ => exact stepV rfl rfl (execMvB rfl ((hf 8 (by decide)).trans t8)) ⟨s, ⟨_, rfl, rfl⟩, hS, fun _ _ => rfl⟩
          | 1, _ => exact stepV rfl rfl (execDec (execNeE (p := 2) (q := 0) rfl (hv 0 (by decide) _ rfl _ rfl) rfl) (decide_eq_true (by decide))) ⟨s, ⟨_, rfl, rfl⟩, hS, fun _ _ => rfl⟩
          | k_ + 2, h_ => exact absurd h_ (by simp)
        rintro _ a X6 h1 h2 h3 h4 hS
        replace hS : Below X4.heap.size X4 X6 := hS
        have bX := hS
        clear hS
        replace t0 := (h3 0 (by decide)).trans t0
        replace t1 := (h3 1 (by decide)).trans t1
        replace t2 := (h3 2 (by decide)).trans t2
        replace t7 := (h3 7 (by decide)).trans t7
        replace t8 := (h3 8 (by decide)).trans t8
        have t53 : a.eval (.tmp 53) = .bool true := h4 1 _ rfl _ rfl
        replace FD := (FD.on bX)
        replace Fz32 := (Fz32.on bX)
        have ZX6 := bX.size
        replace BW := BW.trans (bX.mono BW.size)
        clear bX
        replace A := (⟨h1, h2.trans A.2⟩ : a.tmps.size = 238 ∧ a.defers = [])
        clear h1 h2 h3 h4
        refine wp_cond_true t53 ?_
        clear t53
        refine wp_seq ?_
        replace Fz32 : (SliceI X6 z32 (0) (fun j => (szF (k).toNat (c).toNat j : Int))) := (by have h_ := Fz32; rw [hE, zl_no (by decide)] at h_; exact h_)
        refine wp_region_sq (σ := Unit) 238 [(0, 54), (1, 55), (2, 56), (3, 57), (4, 58), (5, 59), (6, 60), (7, 6)] (fun j_ s X => match j_ with | 0 => Below X6.heap.size X6 X | 1 => Below X6.heap.size X6 X | 2 => Below X6.heap.size X6 X | 3 => Below X6.heap.size X6 X | 4 => Below X6.heap.size X6 X | 5 => Below X6.heap.size X6 X | 6 => Below X6.heap.size X6 X | 7 => Below X6.heap.size X6 X | _ => Below X6.heap.size X6 X) (fun s => fun i_ => match i_ with | 0 => .int .i64 ((2 : Nat) : Int) | 1 => .bool true | 2 => .bool true | 3 => z32 | 4 => .int .i64 ((0 : Nat) : Int) | 5 => .bool true | 6 => .bool true | 7 => .bool true | _ => undef) () A.1 (by kernel_rfl) (by decide) (by decide) (Below.refl _ _) ?_ ?_
        · intro i_ hi_ s a X hf hv hn hS
          match i_, hi_ with
          | 0, _ => exact stepV rfl rfl (execMvB rfl ((hf 8 (by decide)).trans t8)) ⟨s, ⟨_, rfl, rfl⟩, hS, fun _ _ => rfl⟩
          | 1, _ => exact stepV rfl rfl (execDec (execEqE (p := 2) (q := 2) rfl (hv 0 (by decide) _ rfl _ rfl) rfl) (decide_eq_true (by decide))) ⟨s, ⟨_, rfl, rfl⟩, hS, fun _ _ => rfl⟩
          | 2, _ => exact stepV rfl rfl (execMvB rfl (hv 1 (by decide) _ rfl _ rfl)) ⟨s, ⟨_, rfl, rfl⟩, hS, fun _ _ => rfl⟩
          | 3, _ => exact stepV rfl (wantedOf rfl (yieldedAt rfl rfl (show a.eval (.tmp 56) = .bool true from (hv 2 (by decide) _ rfl _ rfl)))) (execMvB rfl ((hf 7 (by decide)).trans t7)) ⟨s, ⟨_, rfl, rfl⟩, hS, fun _ _ => rfl⟩
          | 4, _ => exact stepV rfl (wantedOf rfl (yieldedAt rfl rfl (show a.eval (.tmp 56) = .bool true from (hv 2 (by decide) _ rfl _ rfl)))) (execLenI (len := 0) rfl (hv 3 (by decide) _ rfl _ rfl) ((Fz32.on hS)).shp) ⟨s, ⟨_, rfl, rfl⟩, hS, fun _ _ => rfl⟩
          | 5, _ => exact stepV rfl (wantedOf rfl (yieldedAt rfl rfl (show a.eval (.tmp 56) = .bool true from (hv 2 (by decide) _ rfl _ rfl)))) (execDec (execEqN (p := 0) (q := 0) rfl (hv 4 (by decide) _ rfl _ rfl) rfl) (decide_eq_true (by decide))) ⟨s, ⟨_, rfl, rfl⟩, hS, fun _ _ => rfl⟩
          | 6, _ => exact stepV rfl rfl (execPickT rfl (hv 2 (by decide) _ rfl _ rfl) (hv 5 (by decide) _ rfl _ rfl)) ⟨s, ⟨_, rfl, rfl⟩, hS, fun _ _ => rfl⟩
          | 7, _ => exact stepV rfl rfl (execAsgB rfl (hv 6 (by decide) _ rfl _ rfl)) ⟨s, ⟨_, rfl, rfl⟩, hS, fun _ _ => rfl⟩
          | k_ + 8, h_ => exact absurd h_ (by simp)
        rintro _ a X7 h1 h2 h3 h4 hS
        replace hS : Below X6.heap.size X6 X7 := hS
        have bX := hS
        clear hS
        have t6 : a.eval (.tmp 6) = .bool true := h4 7 _ rfl _ rfl
        replace FD := (FD.on bX)
        replace Fz32 := (Fz32.on bX)
        have ZX7 := bX.size
        replace BW := BW.trans (bX.mono BW.size)
        clear bX
        replace A := (⟨h1, h2.trans A.2⟩ : a.tmps.size = 238 ∧ a.defers = [])
        clear h1 h2 h3 h4
        clear t0 t1 t2 t7 t8
        refine wp_ret ?_
        repeat (first | with_reducible refine ret_in ?_ | with_reducible refine ret_then ?_)
        refine bodyPost_ret (results_tmp rfl _ _ _) A.2 ⟨?_, BW⟩
        show Ending.returned (a.eval (.tmp 6)) = _
        rw [t6]
      · by_cases hd : 64 < c
        · have hE : szE k c = 2 := if_neg (by omega)
          rw [hE] at t8
          refine wp_seq ?_
          refine wp_seq ?_
          refine wp_region_sq (σ := Unit) 238 [(0, 35), (1, 36), (2, 37), (3, 38), (4, 39), (5, 40), (6, 41), (7, 42), (8, 43), (9, 44), (10, 45), (11, 46), (12, 47), (13, 48), (14, 49), (15, 50), (16, 51)] (fun j_ s X => match j_ with | 0 => Below X3.heap.size X3 X | 1 => Below X3.heap.size X3 X | 2 => Below X3.heap.size X3 X | 3 => Below X3.heap.size X3 X | 4 => Below X3.heap.size X3 X | 5 => Below X3.heap.size X3 X | 6 => Below X3.heap.size X3 X | 7 => Below X3.heap.size X3 X | 8 => Below X3.heap.size X3 X | 9 => Below X3.heap.size X3 X | 10 => Below X3.heap.size X3 X | 11 => Below X3.heap.size X3 X | 12 => Below X3.heap.size X3 X | 13 => Below X3.heap.size X3 X | 14 => Below X3.heap.size X3 X | 15 => Below X3.heap.size X3 X | 16 => Below X3.heap.size X3 X | _ => Below X3.heap.size X3 X) (fun s => fun i_ => match i_ with | 0 => .int .i64 ((2 : Nat) : Int) | 1 => .bool false | 2 => .int .i64 k | 3 => .bool true | 4 => .bool true | 5 => .int .i64 k | 6 => .bool true | 7 => .bool true | 8 => .bool true | 9 => .int .i64 c | 10 => .bool true | 11 => .bool true | 12 => .bool true | 13 => .int .i64 c | 14 => .bool false | 15 => .bool false | 16 => .bool false | _ => undef) () A.1 (by kernel_rfl) (by decide) (by decide) (Below.refl _ _) ?_ ?_
          · intro i_ hi_ s a X hf hv hn hS
            match i_, hi_ with
            | 0, _ => exact stepV rfl rfl (execMvB rfl ((hf 8 (by decide)).trans t8)) ⟨s, ⟨_, rfl, rfl⟩, hS, fun _ _ => rfl⟩
            | 1, _ => exact stepV rfl rfl (execDec (execEqE (p := 2) (q := 0) rfl (hv 0 (by decide) _ rfl _ rfl) rfl) (decide_eq_false (by decide))) ⟨s, ⟨_, rfl, rfl⟩, hS, fun _ _ => rfl⟩
            | 2, _ => exact stepV rfl rfl (execMvB rfl ((hf 0 (by decide)).trans t0)) ⟨s, ⟨_, rfl, rfl⟩, hS, fun _ _ => rfl⟩
            | 3, _ => exact stepV rfl rfl (execGeIt (p := k) (q := 0) rfl (hv 2 (by decide) _ rfl _ rfl) rfl (by omega)) ⟨s, ⟨_, rfl, rfl⟩, hS, fun _ _ => rfl⟩
            | 4, _ => exact stepV rfl rfl (execMvB rfl (hv 3 (by decide) _ rfl _ rfl)) ⟨s, ⟨_, rfl, rfl⟩, hS, fun _ _ => rfl⟩
            | 5, _ => exact stepV rfl (wantedOf rfl (yieldedAt rfl rfl (show a.eval (.tmp 39) = .bool true from (hv 4 (by decide) _ rfl _ rfl)))) (execMvB rfl ((hf 0 (by decide)).trans t0)) ⟨s, ⟨_, rfl, rfl⟩, hS, fun _ _ => rfl⟩
            | 6, _ => exact stepV rfl (wantedOf rfl (yieldedAt rfl rfl (show a.eval (.tmp 39) = .bool true from (hv 4 (by decide) _ rfl _ rfl)))) (execLeIt (p := k) (q := 256) rfl (hv 5 (by decide) _ rfl _ rfl) rfl (by omega)) ⟨s, ⟨_, rfl, rfl⟩, hS, fun _ _ => rfl⟩
            | 7, _ => exact stepV rfl rfl (execPickT rfl (hv 4 (by decide) _ rfl _ rfl) (hv 6 (by decide) _ rfl _ rfl)) ⟨s, ⟨_, rfl, rfl⟩, hS, fun _ _ => rfl⟩
            | 8, _ => exact stepV rfl rfl (execMvB rfl (hv 7 (by decide) _ rfl _ rfl)) ⟨s, ⟨_, rfl, rfl⟩, hS, fun _ _ => rfl⟩
            | 9, _ => exact stepV rfl (wantedOf rfl (yieldedAt rfl rfl (show a.eval (.tmp 43) = .bool true from (hv 8 (by decide) _ rfl _ rfl)))) (execMvB rfl ((hf 1 (by decide)).trans t1)) ⟨s, ⟨_, rfl, rfl⟩, hS, fun _ _ => rfl⟩
            | 10, _ => exact stepV rfl (wantedOf rfl (yieldedAt rfl rfl (show a.eval (.tmp 43) = .bool true from (hv 8 (by decide) _ rfl _ rfl)))) (execGeIt (p := c) (q := 1) rfl (hv 9 (by decide) _ rfl _ rfl) rfl (by omega)) ⟨s, ⟨_, rfl, rfl⟩, hS, fun _ _ => rfl⟩
            | 11, _ => exact stepV rfl rfl (execPickT rfl (hv 8 (by decide) _ rfl _ rfl) (hv 10 (by decide) _ rfl _ rfl)) ⟨s, ⟨_, rfl, rfl⟩, hS, fun _ _ => rfl⟩
            | 12, _ => exact stepV rfl rfl (execMvB rfl (hv 11 (by decide) _ rfl _ rfl)) ⟨s, ⟨_, rfl, rfl⟩, hS, fun _ _ => rfl⟩
            | 13, _ => exact stepV rfl (wantedOf rfl (yieldedAt rfl rfl (show a.eval (.tmp 47) = .bool true from (hv 12 (by decide) _ rfl _ rfl)))) (execMvB rfl ((hf 1 (by decide)).trans t1)) ⟨s, ⟨_, rfl, rfl⟩, hS, fun _ _ => rfl⟩
            | 14, _ => exact stepV rfl (wantedOf rfl (yieldedAt rfl rfl (show a.eval (.tmp 47) = .bool true from (hv 12 (by decide) _ rfl _ rfl)))) (execLeIf (p := c) (q := 64) rfl (hv 13 (by decide) _ rfl _ rfl) rfl (by omega)) ⟨s, ⟨_, rfl, rfl⟩, hS, fun _ _ => rfl⟩
            | 15, _ => exact stepV rfl rfl (execPickT rfl (hv 12 (by decide) _ rfl _ rfl) (hv 14 (by decide) _ rfl _ rfl)) ⟨s, ⟨_, rfl, rfl⟩, hS, fun _ _ => rfl⟩
            | 16, _ => exact stepV rfl rfl (execNeBB rfl (hv 1 (by decide) _ rfl _ rfl) (hv 15 (by decide) _ rfl _ rfl)) ⟨s, ⟨_, rfl, rfl⟩, hS, fun _ _ => rfl⟩
            | k_ + 17, h_ => exact absurd h_ (by simp)
          rintro _ a X4 h1 h2 h3 h4 hS
          replace hS : Below X3.heap.size X3 X4 := hS
          have bX := hS
          clear hS
          replace t0 := (h3 0 (by decide)).trans t0
          replace t1 := (h3 1 (by decide)).trans t1
          replace t2 := (h3 2 (by decide)).trans t2
          replace t7 := (h3 7 (by decide)).trans t7
          replace t8 := (h3 8 (by decide)).trans t8
          have t51 : a.eval (.tmp 51) = .bool false := h4 16 _ rfl _ rfl
          replace FD := (FD.on bX)
          replace Fz32 := (Fz32.on bX)
          have ZX4 := bX.size
          replace BW := BW.trans (bX.mono BW.size)
          clear bX
          replace A := (⟨h1, h2.trans A.2⟩ : a.tmps.size = 238 ∧ a.defers = [])
          clear h1 h2 h3 h4
          refine wp_cond_false t51 ?_
          refine wp_skip ?_
          clear t51
          refine wp_seq ?_
          refine wp_seq ?_
          refine wp_region_sq (σ := Unit) 238 [(0, 52), (1, 53)] (fun j_ s X => match j_ with | 0 => Below X4.heap.size X4 X | 1 => Below X4.heap.size X4 X | _ => Below X4.heap.size X4 X) (fun s => fun i_ => match i_ with | 0 => .int .i64 ((2 : Nat) : Int) | 1 => .bool true | _ => undef) () A.1 (by kernel_rfl) (by decide) (by decide) (Below.refl _ _) ?_ ?_
          · intro i_ hi_ s a X hf hv hn hS
            match i_, hi_ with
            | 0, _ => exact stepV rfl rfl (execMvB rfl ((hf 8 (by decide)).trans t8)) ⟨s, ⟨_, rfl, rfl⟩, hS, fun _ _ => rfl⟩
            | 1, _ => exact stepV rfl rfl (execDec (execNeE (p := 2) (q := 0) rfl (hv 0 (by decide) _ rfl _ rfl) rfl) (decide_eq_true (by decide))) ⟨s, ⟨_, rfl, rfl⟩, hS, fun _ _ => rfl⟩
            | k_ + 2, h_ => exact absurd h_ (by simp)
          rintro _ a X6 h1 h2 h3 h4 hS
          replace hS : Below X4.heap.size X4 X6 := hS
          have bX := hS
          clear hS
          replace t0 := (h3 0 (by decide)).trans t0
          replace t1 := (h3 1 (by decide)).trans t1
          replace t2 := (h3 2 (by decide)).trans t2
          replace t7 := (h3 7 (by decide)).trans t7
          replace t8 := (h3 8 (by decide)).trans t8
          have t53 : a.eval (.tmp 53) = .bool true := h4 1 _ rfl _ rfl
          replace FD := (FD.on bX)
          replace Fz32 := (Fz32.on bX)
          have ZX6 := bX.size
          replace BW := BW.trans (bX.mono BW.size)
          clear bX
          replace A := (⟨h1, h2.trans A.2⟩ : a.tmps.size = 238 ∧ a.defers = [])
          clear h1 h2 h3 h4
          refine wp_cond_true t53 ?_
          clear t53
          refine wp_seq ?_
          replace Fz32 : (SliceI X6 z32 (0) (fun j => (szF (k).toNat (c).toNat j : Int))) := (by have h_ := Fz32; rw [hE, zl_no (by decide)] at h_; exact h_)
          refine wp_region_sq (σ := Unit) 238 [(0, 54), (1, 55), (2, 56), (3, 57), (4, 58), (5, 59), (6, 60), (7, 6)] (fun j_ s X => match j_ with | 0 => Below X6.heap.size X6 X | 1 => Below X6.heap.size X6 X | 2 => Below X6.heap.size X6 X | 3 => Below X6.heap.size X6 X | 4 => Below X6.heap.size X6 X | 5 => Below X6.heap.size X6 X | 6 => Below X6.heap.size X6 X | 7 => Below X6.heap.size X6 X | _ => Below X6.heap.size X6 X) (fun s => fun i_ => match i_ with | 0 => .int .i64 ((2 : Nat) : Int) | 1 => .bool true | 2 => .bool true | 3 => z32 | 4 => .int .i64 ((0 : Nat) : Int) | 5 => .bool true | 6 => .bool true | 7 => .bool true | _ => undef) () A.1 (by kernel_rfl) (by decide) (by decide) (Below.refl _ _) ?_ ?_
          · intro i_ hi_ s a X hf hv hn hS
            match i_, hi_ with
            | 0, _ => exact stepV rfl rfl (execMvB rfl ((hf 8 (by decide)).trans t8)) ⟨s, ⟨_, rfl, rfl⟩, hS, fun _ _ => rfl⟩
            | 1, _ => exact stepV rfl rfl (execDec (execEqE (p := 2) (q := 2) rfl (hv 0 (by decide) _ rfl _ rfl) rfl) (decide_eq_true (by decide))) ⟨s, ⟨_, rfl, rfl⟩, hS, fun _ _ => rfl⟩
            | 2, _ => exact stepV rfl rfl (execMvB rfl (hv 1 (by decide) _ rfl _ rfl)) ⟨s, ⟨_, rfl, rfl⟩, hS, fun _ _ => rfl⟩
            | 3, _ => exact stepV rfl (wantedOf rfl (yieldedAt rfl rfl (show a.eval (.tmp 56) = .bool true from (hv 2 (by decide) _ rfl _ rfl)))) (execMvB rfl ((hf 7 (by decide)).trans t7)) ⟨s, ⟨_, rfl, rfl⟩, hS, fun _ _ => rfl⟩
            | 4, _ => exact stepV rfl (wantedOf rfl (yieldedAt rfl rfl (show a.eval (.tmp 56) = .bool true from (hv 2 (by decide) _ rfl _ rfl)))) (execLenI (len := 0) rfl (hv 3 (by decide) _ rfl _ rfl) ((Fz32.on hS)).shp) ⟨s, ⟨_, rfl, rfl⟩, hS, fun _ _ => rfl⟩
            | 5, _ => exact stepV rfl (wantedOf rfl (yieldedAt rfl rfl (show a.eval (.tmp 56) = .bool true from (hv 2 (by decide) _ rfl _ rfl)))) (execDec (execEqN (p := 0) (q := 0) rfl (hv 4 (by decide) _ rfl _ rfl) rfl) (decide_eq_true (by decide))) ⟨s, ⟨_, rfl, rfl⟩, hS, fun _ _ => rfl⟩
            | 6, _ => exact stepV rfl rfl (execPickT rfl (hv 2 (by decide) _ rfl _ rfl) (hv 5 (by decide) _ rfl _ rfl)) ⟨s, ⟨_, rfl, rfl⟩, hS, fun _ _ => rfl⟩
            | 7, _ => exact stepV rfl rfl (execAsgB rfl (hv 6 (by decide) _ rfl _ rfl)) ⟨s, ⟨_, rfl, rfl⟩, hS, fun _ _ => rfl⟩
            | k_ + 8, h_ => exact absurd h_ (by simp)
          rintro _ a X7 h1 h2 h3 h4 hS
          replace hS : Below X6.heap.size X6 X7 := hS
          have bX := hS
          clear hS
          have t6 : a.eval (.tmp 6) = .bool true := h4 7 _ rfl _ rfl
          replace FD := (FD.on bX)
          replace Fz32 := (Fz32.on bX)
          have ZX7 := bX.size
          replace BW := BW.trans (bX.mono BW.size)
          clear bX
          replace A := (⟨h1, h2.trans A.2⟩ : a.tmps.size = 238 ∧ a.defers = [])
          clear h1 h2 h3 h4
          clear t0 t1 t2 t7 t8
          refine wp_ret ?_
          repeat (first | with_reducible refine ret_in ?_ | with_reducible refine ret_then ?_)
          refine bodyPost_ret (results_tmp rfl _ _ _) A.2 ⟨?_, BW⟩
          show Ending.returned (a.eval (.tmp 6)) = _
          rw [t6]
        · have hE : szE k c = 0 := if_pos (by omega)
          rw [hE] at t8
          refine wp_seq ?_
          refine wp_seq ?_
          refine wp_region_sq (σ := Unit) 238 [(0, 35), (1, 36), (2, 37), (3, 38), (4, 39), (5, 40), (6, 41), (7, 42), (8, 43), (9, 44), (10, 45), (11, 46), (12, 47), (13, 48), (14, 49), (15, 50), (16, 51)] (fun j_ s X => match j_ with | 0 => Below X3.heap.size X3 X | 1 => Below X3.heap.size X3 X | 2 => Below X3.heap.size X3 X | 3 => Below X3.heap.size X3 X | 4 => Below X3.heap.size X3 X | 5 => Below X3.heap.size X3 X | 6 => Below X3.heap.size X3 X | 7 => Below X3.heap.size X3 X | 8 => Below X3.heap.size X3 X | 9 => Below X3.heap.size X3 X | 10 => Below X3.heap.size X3 X | 11 => Below X3.heap.size X3 X | 12 => Below X3.heap.size X3 X | 13 => Below X3.heap.size X3 X | 14 => Below X3.heap.size X3 X | 15 => Below X3.heap.size X3 X | 16 => Below X3.heap.size X3 X | _ => Below X3.heap.size X3 X) (fun s => fun i_ => match i_ with | 0 => .int .i64 ((0 : Nat) : Int) | 1 => .bool true | 2 => .int .i64 k | 3 => .bool true | 4 => .bool true | 5 => .int .i64 k | 6 => .bool true | 7 => .bool true | 8 => .bool true | 9 => .int .i64 c | 10 => .bool true | 11 => .bool true | 12 => .bool true | 13 => .int .i64 c | 14 => .bool true | 15 => .bool true | 16 => .bool false | _ => undef) () A.1 (by kernel_rfl) (by decide) (by decide) (Below.refl _ _) ?_ ?_
          · intro i_ hi_ s a X hf hv hn hS
            match i_, hi_ with
            | 0, _ => exact stepV rfl rfl (execMvB rfl ((hf 8 (by decide)).trans t8)) ⟨s, ⟨_, rfl, rfl⟩, hS, fun _ _ => rfl⟩
            | 1, _ => exact stepV rfl rfl (execDec (execEqE (p := 0) (q := 0) rfl (hv 0 (by decide) _ rfl _ rfl) rfl) (decide_eq_true (by decide))) ⟨s, ⟨_, rfl, rfl⟩, hS, fun _ _ => rfl⟩
            | 2, _ => exact stepV rfl rfl (execMvB rfl ((hf 0 (by decide)).trans t0)) ⟨s, ⟨_, rfl, rfl⟩, hS, fun _ _ => rfl⟩
            | 3, _ => exact stepV rfl rfl (execGeIt (p := k) (q := 0) rfl (hv 2 (by decide) _ rfl _ rfl) rfl (by omega)) ⟨s, ⟨_, rfl, rfl⟩, hS, fun _ _ => rfl⟩
            | 4, _ => exact stepV rfl rfl (execMvB rfl (hv 3 (by decide) _ rfl _ rfl)) ⟨s, ⟨_, rfl, rfl⟩, hS, fun _ _ => rfl⟩
            | 5, _ => exact stepV rfl (wantedOf rfl (yieldedAt rfl rfl (show a.eval (.tmp 39) = .bool true from (hv 4 (by decide) _ rfl _ rfl)))) (execMvB rfl ((hf 0 (by decide)).trans t0)) ⟨s, ⟨_, rfl, rfl⟩, hS, fun _ _ => rfl⟩
            | 6, _ => exact stepV rfl (wantedOf rfl (yieldedAt rfl rfl (show a.eval (.tmp 39) = .bool true from (hv 4 (by decide) _ rfl _ rfl)))) (execLeIt (p := k) (q := 256) rfl (hv 5 (by decide) _ rfl _ rfl) rfl (by omega)) ⟨s, ⟨_, rfl, rfl⟩, hS, fun _ _ => rfl⟩
            | 7, _ => exact stepV rfl rfl (execPickT rfl (hv 4 (by decide) _ rfl _ rfl) (hv 6 (by decide) _ rfl _ rfl)) ⟨s, ⟨_, rfl, rfl⟩, hS, fun _ _ => rfl⟩
            | 8, _ => exact stepV rfl rfl (execMvB rfl (hv 7 (by decide) _ rfl _ rfl)) ⟨s, ⟨_, rfl, rfl⟩, hS, fun _ _ => rfl⟩
            | 9, _ => exact stepV rfl (wantedOf rfl (yieldedAt rfl rfl (show a.eval (.tmp 43) = .bool true from (hv 8 (by decide) _ rfl _ rfl)))) (execMvB rfl ((hf 1 (by decide)).trans t1)) ⟨s, ⟨_, rfl, rfl⟩, hS, fun _ _ => rfl⟩
            | 10, _ => exact stepV rfl (wantedOf rfl (yieldedAt rfl rfl (show a.eval (.tmp 43) = .bool true from (hv 8 (by decide) _ rfl _ rfl)))) (execGeIt (p := c) (q := 1) rfl (hv 9 (by decide) _ rfl _ rfl) rfl (by omega)) ⟨s, ⟨_, rfl, rfl⟩, hS, fun _ _ => rfl⟩
            | 11, _ => exact stepV rfl rfl (execPickT rfl (hv 8 (by decide) _ rfl _ rfl) (hv 10 (by decide) _ rfl _ rfl)) ⟨s, ⟨_, rfl, rfl⟩, hS, fun _ _ => rfl⟩
            | 12, _ => exact stepV rfl rfl (execMvB rfl (hv 11 (by decide) _ rfl _ rfl)) ⟨s, ⟨_, rfl, rfl⟩, hS, fun _ _ => rfl⟩
            | 13, _ => exact stepV rfl (wantedOf rfl (yieldedAt rfl rfl (show a.eval (.tmp 47) = .bool true from (hv 12 (by decide) _ rfl _ rfl)))) (execMvB rfl ((hf 1 (by decide)).trans t1)) ⟨s, ⟨_, rfl, rfl⟩, hS, fun _ _ => rfl⟩
            | 14, _ => exact stepV rfl (wantedOf rfl (yieldedAt rfl rfl (show a.eval (.tmp 47) = .bool true from (hv 12 (by decide) _ rfl _ rfl)))) (execLeIt (p := c) (q := 64) rfl (hv 13 (by decide) _ rfl _ rfl) rfl (by omega)) ⟨s, ⟨_, rfl, rfl⟩, hS, fun _ _ => rfl⟩
            | 15, _ => exact stepV rfl rfl (execPickT rfl (hv 12 (by decide) _ rfl _ rfl) (hv 14 (by decide) _ rfl _ rfl)) ⟨s, ⟨_, rfl, rfl⟩, hS, fun _ _ => rfl⟩
            | 16, _ => exact stepV rfl rfl (execNeBB rfl (hv 1 (by decide) _ rfl _ rfl) (hv 15 (by decide) _ rfl _ rfl)) ⟨s, ⟨_, rfl, rfl⟩, hS, fun _ _ => rfl⟩
            | k_ + 17, h_ => exact absurd h_ (by simp)
          rintro _ a X4 h1 h2 h3 h4 hS
          replace hS : Below X3.heap.size X3 X4 := hS
          have bX := hS
          clear hS
          replace t0 := (h3 0 (by decide)).trans t0
          replace t1 := (h3 1 (by decide)).trans t1
          replace t2 := (h3 2 (by decide)).trans t2
          replace t7 := (h3 7 (by decide)).trans t7
          replace t8 := (h3 8 (by decide)).trans t8
          have t51 : a.eval (.tmp 51) = .bool false := h4 16 _ rfl _ rfl
          replace FD := (FD.on bX)
          replace Fz32 := (Fz32.on bX)
          have ZX4 := bX.size
          replace BW := BW.trans (bX.mono BW.size)
          clear bX
          replace A := (⟨h1, h2.trans A.2⟩ : a.tmps.size = 238 ∧ a.defers = [])
          clear h1 h2 h3 h4
          refine wp_cond_false t51 ?_
          refine wp_skip ?_
          clear t51
          refine wp_seq ?_
          refine wp_seq ?_
          refine wp_region_sq (σ := Unit) 238 [(0, 52), (1, 53)] (fun j_ s X => match j_ with | 0 => Below X4.heap.size X4 X | 1 => Below X4.heap.size X4 X | _ => Below X4.heap.size X4 X) (fun s => fun i_ => match i_ with | 0 => .int .i64 ((0 : Nat) : Int) | 1 => .bool false | _ => undef) () A.1 (by kernel_rfl) (by decide) (by decide) (Below.refl _ _) ?_ ?_
          · intro i_ hi_ s a X hf hv hn hS
            match i_, hi_ with
            | 0, _ => exact stepV rfl rfl (execMvB rfl ((hf 8 (by decide)).trans t8)) ⟨s, ⟨_, rfl, rfl⟩, hS, fun _ _ => rfl⟩
            | 1, _ => exact stepV rfl rfl (execDec (execNeE (p := 0) (q := 0) rfl (hv 0 (by decide) _ rfl _ rfl) rfl) (decide_eq_false (by decide))) ⟨s, ⟨_, rfl, rfl⟩, hS, fun _ _ => rfl⟩
            | k_ + 2, h_ => exact absurd h_ (by simp)
          rintro _ a X6 h1 h2 h3 h4 hS
          replace hS : Below X4.heap.size X4 X6 := hS
          have bX := hS
          clear hS
          replace t0 := (h3 0 (by decide)).trans t0
          replace t1 := (h3 1 (by decide)).trans t1
          replace t2 := (h3 2 (by decide)).trans t2
          replace t7 := (h3 7 (by decide)).trans t7
          replace t8 := (h3 8 (by decide)).trans t8
          have t53 : a.eval (.tmp 53) = .bool false := h4 1 _ rfl _ rfl
          replace FD := (FD.on bX)
          replace Fz32 := (Fz32.on bX)
          have ZX6 := bX.size
          replace BW := BW.trans (bX.mono BW.size)
          clear bX
          replace A := (⟨h1, h2.trans A.2⟩ : a.tmps.size = 238 ∧ a.defers = [])
          clear h1 h2 h3 h4
          refine wp_cond_false t53 ?_
          refine wp_skip ?_
          clear t53
          obtain ⟨N, rfl⟩ : ∃ N : Nat, k = N := ⟨k.toNat, by omega⟩
          obtain ⟨D, rfl⟩ : ∃ D : Nat, c = D := ⟨c.toNat, by omega⟩
          have hD0 : 0 < D := by omega
          have hss := sz_sum N hD0
          clear t8
          replace Fz32 : (SliceI X6 z32 (D) (fun j => (szF N D j : Int))) := (by have h_ := Fz32; rw [hE, zl_ok] at h_; exact h_)
          clear hE
          refine wp_seq ?_
          refine wp_seq ?_
          refine wp_region_sq (σ := Unit) 238 [(0, 61), (1, 62), (2, 63), (3, 64)] (fun j_ s X => match j_ with | 0 => Below X6.heap.size X6 X | 1 => Below X6.heap.size X6 X | 2 => Below X6.heap.size X6 X | 3 => Below X6.heap.size X6 X | _ => Below X6.heap.size X6 X) (fun s => fun i_ => match i_ with | 0 => z32 | 1 => .int .i64 ((D : Nat) : Int) | 2 => .int .i64 ((D : Nat) : Int) | 3 => .bool false | _ => undef) () A.1 (by kernel_rfl) (by decide) (by decide) (Below.refl _ _) ?_ ?_
          · intro i_ hi_ s a X hf hv hn hS
            match i_, hi_ with
            | 0, _ => exact stepV rfl rfl (execMvB rfl ((hf 7 (by decide)).trans t7)) ⟨s, ⟨_, rfl, rfl⟩, hS, fun _ _ => rfl⟩
            | 1, _ => exact stepV rfl rfl (execLenI (len := D) rfl (hv 0 (by decide) _ rfl _ rfl) ((Fz32.on hS)).shp) ⟨s, ⟨_, rfl, rfl⟩, hS, fun _ _ => rfl⟩
            | 2, _ => exact stepV rfl rfl (execMvB rfl ((hf 1 (by decide)).trans t1)) ⟨s, ⟨_, rfl, rfl⟩, hS, fun _ _ => rfl⟩
            | 3, _ => exact stepV rfl rfl (execDec (execNeN (p := D) (q := D) rfl (hv 1 (by decide) _ rfl _ rfl) (hv 2 (by decide) _ rfl _ rfl)) (decide_eq_false (by omega))) ⟨s, ⟨_, rfl, rfl⟩, hS, fun _ _ => rfl⟩
            | k_ + 4, h_ => exact absurd h_ (by simp)
          rintro _ a X8 h1 h2 h3 h4 hS
          replace hS : Below X6.heap.size X6 X8 := hS
          have bX := hS
          clear hS
          replace t0 := (h3 0 (by decide)).trans t0
          replace t1 := (h3 1 (by decide)).trans t1
          replace t2 := (h3 2 (by decide)).trans t2
          replace t7 := (h3 7 (by decide)).trans t7
          have t64 : a.eval (.tmp 64) = .bool false := h4 3 _ rfl _ rfl
          replace FD := (FD.on bX)
          replace Fz32 := (Fz32.on bX)
          have ZX8 := bX.size
          replace BW := BW.trans (bX.mono BW.size)
          clear bX
          replace A := (⟨h1, h2.trans A.2⟩ : a.tmps.size = 238 ∧ a.defers = [])
          clear h1 h2 h3 h4
          refine wp_cond_false t64 ?_
          refine wp_skip ?_
          clear t64
          refine wp_seq ?_
          refine wp_region_sq (σ := Value) 238 [(0, 65), (1, 66), (2, 9)] (fun j_ s X => match j_ with | 0 => Below X8.heap.size X8 X | 1 => Below X8.heap.size X8 X | 2 => Below X8.heap.size X8 X ∧ (SliceI X s (bdN (((N : Nat) : Int))) (fun j => (((N : Nat) : Int)) - (j : Int))) | _ => Below X8.heap.size X8 X ∧ (SliceI X s (bdN (((N : Nat) : Int))) (fun j => (((N : Nat) : Int)) - (j : Int)))) (fun s => fun i_ => match i_ with | 0 => .int .i64 ((N : Nat) : Int) | 1 => s | 2 => s | _ => undef) undef A.1 (by kernel_rfl) (by decide) (by decide) (Below.refl _ _) ?_ ?_
          · intro i_ hi_ s a X hf hv hn hS
            match i_, hi_ with
            | 0, _ => exact stepV rfl rfl (execMvB rfl ((hf 0 (by decide)).trans t0)) ⟨s, ⟨_, rfl, rfl⟩, hS, fun _ _ => rfl⟩
            | 1, _ =>
              refine stepC rfl rfl (execCall1 Try.func13 (by kernel_rfl) (by kernel_rfl) rfl (hv 0 (by decide) _ rfl _ rfl)) (pbounds12 (((N : Nat) : Int)) X) fun e w' hh => ?_
              obtain ⟨r0_, he, hk, hb⟩ := hh
              refine ⟨_, he, r0_, ⟨_, rfl, rfl⟩, ⟨(hS).trans ((hb).mono (hS).size), own_ints hk bd_fits⟩, fun i hi => ?_⟩
              match i, hi with
              | 0, _ => rfl
              | n_ + 1, h_ => omega
            | 2, _ => exact stepV rfl rfl (execAsgB rfl (hv 1 (by decide) _ rfl _ rfl)) ⟨s, ⟨_, rfl, rfl⟩, hS, fun _ _ => rfl⟩
            | k_ + 3, h_ => exact absurd h_ (by simp)
          rintro b66 a X10 h1 h2 h3 h4 hS
          replace hS : Below X8.heap.size X8 X10 ∧ (SliceI X10 b66 (bdN (((N : Nat) : Int))) (fun j => (((N : Nat) : Int)) - (j : Int))) := hS
          obtain ⟨bX, Fb66⟩ := hS
          replace t0 := (h3 0 (by decide)).trans t0
          replace t1 := (h3 1 (by decide)).trans t1
          replace t2 := (h3 2 (by decide)).trans t2
          replace t7 := (h3 7 (by decide)).trans t7
          have t9 : a.eval (.tmp 9) = b66 := h4 2 _ rfl _ rfl
          replace FD := (FD.on bX)
          replace Fz32 := (Fz32.on bX)
          have ZX10 := bX.size
          replace BW := BW.trans (bX.mono BW.size)
          clear bX
          replace A := (⟨h1, h2.trans A.2⟩ : a.tmps.size = 238 ∧ a.defers = [])
          clear h1 h2 h3 h4
          replace Fb66 : (SliceI X10 b66 (N) (fun j => ((N : Nat) : Int) - (j : Int))) := (by have h_ := Fb66; rw [show bdN ((N : Nat) : Int) = N from if_pos (by omega)] at h_; exact h_)
          refine wp_seq ?_
          refine wp_seq ?_
          refine wp_region_sq (σ := Unit) 238 [(0, 67), (1, 68), (2, 69), (3, 70)] (fun j_ s X => match j_ with | 0 => Below X10.heap.size X10 X | 1 => Below X10.heap.size X10 X | 2 => Below X10.heap.size X10 X | 3 => Below X10.heap.size X10 X | _ => Below X10.heap.size X10 X) (fun s => fun i_ => match i_ with | 0 => b66 | 1 => .int .i64 ((N : Nat) : Int) | 2 => .int .i64 ((N : Nat) : Int) | 3 => .bool false | _ => undef) () A.1 (by kernel_rfl) (by decide) (by decide) (Below.refl _ _) ?_ ?_
          · intro i_ hi_ s a X hf hv hn hS
            match i_, hi_ with
            | 0, _ => exact stepV rfl rfl (execMvB rfl ((hf 9 (by decide)).trans t9)) ⟨s, ⟨_, rfl, rfl⟩, hS, fun _ _ => rfl⟩
            | 1, _ => exact stepV rfl rfl (execLenI (len := N) rfl (hv 0 (by decide) _ rfl _ rfl) ((Fb66.on hS)).shp) ⟨s, ⟨_, rfl, rfl⟩, hS, fun _ _ => rfl⟩
            | 2, _ => exact stepV rfl rfl (execMvB rfl ((hf 0 (by decide)).trans t0)) ⟨s, ⟨_, rfl, rfl⟩, hS, fun _ _ => rfl⟩
            | 3, _ => exact stepV rfl rfl (execDec (execNeN (p := N) (q := N) rfl (hv 1 (by decide) _ rfl _ rfl) (hv 2 (by decide) _ rfl _ rfl)) (decide_eq_false (by omega))) ⟨s, ⟨_, rfl, rfl⟩, hS, fun _ _ => rfl⟩
            | k_ + 4, h_ => exact absurd h_ (by simp)
          rintro _ a X11 h1 h2 h3 h4 hS
          replace hS : Below X10.heap.size X10 X11 := hS
          have bX := hS
          clear hS
          replace t0 := (h3 0 (by decide)).trans t0
          replace t1 := (h3 1 (by decide)).trans t1
          replace t2 := (h3 2 (by decide)).trans t2
          replace t7 := (h3 7 (by decide)).trans t7
          replace t9 := (h3 9 (by decide)).trans t9
          have t70 : a.eval (.tmp 70) = .bool false := h4 3 _ rfl _ rfl
          replace FD := (FD.on bX)
          replace Fz32 := (Fz32.on bX)
          replace Fb66 := (Fb66.on bX)
          have ZX11 := bX.size
          replace BW := BW.trans (bX.mono BW.size)
          clear bX
          replace A := (⟨h1, h2.trans A.2⟩ : a.tmps.size = 238 ∧ a.defers = [])
          clear h1 h2 h3 h4
          refine wp_cond_false t70 ?_
          refine wp_skip ?_
          clear t70
          have BB : Below X11.heap.size X11 X11 := Below.refl _ _
          refine wp_seq ?_
          refine wp_region_sq (σ := Nat) 238 [(0, 71), (1, 72), (2, 10)] (fun j_ s X => match j_ with | 0 => Below X11.heap.size X11 X | 1 => Below X11.heap.size X11 X | 2 => Below X11.heap.size X11 X ∧ (X.ownsRow X11.heap.size 3 1 (.slice (some ⟨s, 0, none⟩) N N) (N) (intsL (N) (fun j => if j < 0 then (oF df M N j : Int) else 0))) ∧ (X11.heap.size ≤ s) | _ => Below X11.heap.size X11 X ∧ (X.ownsRow X11.heap.size 3 1 (.slice (some ⟨s, 0, none⟩) N N) (N) (intsL (N) (fun j => if j < 0 then (oF df M N j : Int) else 0))) ∧ (X11.heap.size ≤ s)) (fun s => fun i_ => match i_ with | 0 => .int .i64 ((N : Nat) : Int) | 1 => .slice (some ⟨s, 0, none⟩) N N | 2 => .slice (some ⟨s, 0, none⟩) N N | _ => undef) 0 A.1 (by kernel_rfl) (by decide) (by decide) (BB) ?_ ?_
          · intro i_ hi_ s a X hf hv hn hS
            match i_, hi_ with
            | 0, _ => exact stepV rfl rfl (execMvB rfl ((hf 0 (by decide)).trans t0)) ⟨s, ⟨_, rfl, rfl⟩, hS, fun _ _ => rfl⟩
            | 1, _ =>
              refine stepV rfl rfl (execMkN rfl (hv 0 (by decide) _ rfl _ rfl) (hv 0 (by decide) _ rfl _ rfl) (by omega)) ⟨X.heap.size, ⟨_, rfl, rfl⟩, ⟨(hS).trans (((belNew X _)).mono (hS).size), ownD_base (own_mkZ X N _ (by omega) (fun j_ _ => if_neg (Nat.not_lt_zero _))) (hS).size, (hS).size⟩, fun i hi => ?_⟩
              match i, hi with
              | 0, _ => rfl
              | n_ + 1, h_ => omega
            | 2, _ => exact stepV rfl rfl (execAsgB rfl (hv 1 (by decide) _ rfl _ rfl)) ⟨s, ⟨_, rfl, rfl⟩, hS, fun _ _ => rfl⟩
            | k_ + 3, h_ => exact absurd h_ (by simp)
          rintro g72 a X13 h1 h2 h3 h4 hS
          clear BB
          replace hS : Below X11.heap.size X11 X13 ∧ (X13.ownsRow X11.heap.size 3 1 (.slice (some ⟨g72, 0, none⟩) N N) (N) (intsL (N) (fun j => if j < 0 then (oF df M N j : Int) else 0))) ∧ (X11.heap.size ≤ g72) := hS
          obtain ⟨BB, FW, FWg⟩ := hS
          replace t0 := (h3 0 (by decide)).trans t0
          replace t1 := (h3 1 (by decide)).trans t1
          replace t2 := (h3 2 (by decide)).trans t2
          replace t7 := (h3 7 (by decide)).trans t7
          replace t9 := (h3 9 (by decide)).trans t9
          have t10 : a.eval (.tmp 10) = .slice (some ⟨g72, 0, none⟩) N N := h4 2 _ rfl _ rfl
          replace A := (⟨h1, h2.trans A.2⟩ : a.tmps.size = 238 ∧ a.defers = [])
          clear h1 h2 h3 h4
          refine wp_seq ?_
          refine wp_seq ?_
          refine wp_region_sq (σ := Unit) 238 [(0, 73), (1, 74), (2, 75)] (fun j_ s X => match j_ with | 0 => Below X11.heap.size X11 X ∧ (X.ownsRow X11.heap.size 3 1 (.slice (some ⟨g72, 0, none⟩) N N) (N) (intsL (N) (fun j => if j < 0 then (oF df M N j : Int) else 0))) | 1 => Below X11.heap.size X11 X ∧ (X.ownsRow X11.heap.size 3 1 (.slice (some ⟨g72, 0, none⟩) N N) (N) (intsL (N) (fun j => if j < 0 then (oF df M N j : Int) else 0))) | 2 => Below X11.heap.size X11 X ∧ (X.ownsRow X11.heap.size 3 1 (.slice (some ⟨g72, 0, none⟩) N N) (N) (intsL (N) (fun j => if j < 0 then (oF df M N j : Int) else 0))) | _ => Below X11.heap.size X11 X ∧ (X.ownsRow X11.heap.size 3 1 (.slice (some ⟨g72, 0, none⟩) N N) (N) (intsL (N) (fun j => if j < 0 then (oF df M N j : Int) else 0)))) (fun s => fun i_ => match i_ with | 0 => b66 | 1 => .int .i64 ((N : Nat) : Int) | 2 => .int .i64 ((0 : Nat) : Int) | _ => undef) () A.1 (by kernel_rfl) (by decide) (by decide) ⟨BB, FW⟩ ?_ ?_
          · intro i_ hi_ s a X hf hv hn hS
            match i_, hi_ with
            | 0, _ => exact stepV rfl rfl (execMvB rfl ((hf 9 (by decide)).trans t9)) ⟨s, ⟨_, rfl, rfl⟩, hS, fun _ _ => rfl⟩
            | 1, _ => exact stepV rfl rfl (execLenI (len := N) rfl (hv 0 (by decide) _ rfl _ rfl) ((Fb66.on hS.1)).shp) ⟨s, ⟨_, rfl, rfl⟩, hS, fun _ _ => rfl⟩
            | 2, _ => exact stepV rfl rfl (execMvB rfl rfl) ⟨s, ⟨_, rfl, rfl⟩, hS, fun _ _ => rfl⟩
            | k_ + 3, h_ => exact absurd h_ (by simp)
          rintro _ a X14 h1 h2 h3 h4 hS
          clear BB
          clear FW
          replace hS : Below X11.heap.size X11 X14 ∧ (X14.ownsRow X11.heap.size 3 1 (.slice (some ⟨g72, 0, none⟩) N N) (N) (intsL (N) (fun j => if j < 0 then (oF df M N j : Int) else 0))) := hS
          obtain ⟨BB, FW⟩ := hS
          replace t0 := (h3 0 (by decide)).trans t0
          replace t1 := (h3 1 (by decide)).trans t1
          replace t2 := (h3 2 (by decide)).trans t2
          replace t7 := (h3 7 (by decide)).trans t7
          replace t10 := (h3 10 (by decide)).trans t10
          have t73 : a.eval (.tmp 73) = b66 := h4 0 _ rfl _ rfl
          have t74 : a.eval (.tmp 74) = .int .i64 ((N : Nat) : Int) := h4 1 _ rfl _ rfl
          have t75 : a.eval (.tmp 75) = .int .i64 ((0 : Nat) : Int) := h4 2 _ rfl _ rfl
          replace A := (⟨h1, h2.trans A.2⟩ : a.tmps.size = 238 ∧ a.defers = [])
          clear h1 h2 h3 h4
          clear t9
          refine wp_block ?_
          refine wp_loop (fun a W => ∃ (i : Nat), i ≤ N ∧ (a.tmps.size = 238 ∧ a.defers = []) ∧ a.eval (.tmp 0) = .int .i64 ((N : Nat) : Int) ∧ a.eval (.tmp 1) = .int .i64 ((D : Nat) : Int) ∧ a.eval (.tmp 2) = u2 ∧ a.eval (.tmp 7) = z32 ∧ a.eval (.tmp 10) = .slice (some ⟨g72, 0, none⟩) N N ∧ a.eval (.tmp 73) = b66 ∧ a.eval (.tmp 74) = .int .i64 ((N : Nat) : Int) ∧ a.eval (.tmp 75) = .int .i64 ((i : Nat) : Int) ∧ Below X11.heap.size X11 W ∧ (W.ownsRow X11.heap.size 3 1 (.slice (some ⟨g72, 0, none⟩) N N) (N) (intsL (N) (fun j => if j < i then (oF df M N j : Int) else 0)))) (fun a _ => N - (intOf (a.eval (.tmp 75))).toNat) ⟨0, Nat.zero_le _, A, t0, t1, t2, t7, t10, t73, t74, t75, BB, FW⟩ ?_
          clear A t0 t1 t2 t7 t10 t73 t74 t75 BB FW a
          rintro a XL15 ⟨i, hi, A, t0, t1, t2, t7, t10, t73, t74, t75, BB, FW⟩
          have esi := t75
          refine wp_seq ?_
          refine wp_region_sq (σ := Unit) 238 [(0, 76)] (fun j_ s X => match j_ with | 0 => Below X11.heap.size X11 X ∧ (X.ownsRow X11.heap.size 3 1 (.slice (some ⟨g72, 0, none⟩) N N) (N) (intsL (N) (fun j => if j < i then (oF df M N j : Int) else 0))) | _ => Below X11.heap.size X11 X ∧ (X.ownsRow X11.heap.size 3 1 (.slice (some ⟨g72, 0, none⟩) N N) (N) (intsL (N) (fun j => if j < i then (oF df M N j : Int) else 0)))) (fun s => fun i_ => match i_ with | 0 => .bool (decide (i < N)) | _ => undef) () A.1 (by kernel_rfl) (by decide) (by decide) ⟨BB, FW⟩ ?_ ?_
          · intro i_ hi_ s a X hf hv hn hS
            match i_, hi_ with
            | 0, _ => exact stepV rfl rfl (execLtW (p := i) (q := N) rfl ((hf 75 (by decide)).trans t75) ((hf 74 (by decide)).trans t74)) ⟨s, ⟨_, rfl, rfl⟩, hS, fun _ _ => rfl⟩
            | k_ + 1, h_ => exact absurd h_ (by simp)
          rintro _ a X15 h1 h2 h3 h4 hS
          clear BB
          clear FW
          replace hS : Below X11.heap.size X11 X15 ∧ (X15.ownsRow X11.heap.size 3 1 (.slice (some ⟨g72, 0, none⟩) N N) (N) (intsL (N) (fun j => if j < i then (oF df M N j : Int) else 0))) := hS
          obtain ⟨BB, FW⟩ := hS
          replace t0 := (h3 0 (by decide)).trans t0
          replace t1 := (h3 1 (by decide)).trans t1
          replace t2 := (h3 2 (by decide)).trans t2
          replace t7 := (h3 7 (by decide)).trans t7
          replace t10 := (h3 10 (by decide)).trans t10
          replace t73 := (h3 73 (by decide)).trans t73
          replace t74 := (h3 74 (by decide)).trans t74
          replace t75 := (h3 75 (by decide)).trans t75
          have t76 : a.eval (.tmp 76) = .bool (decide (i < N)) := h4 0 _ rfl _ rfl
          replace A := (⟨h1, h2.trans A.2⟩ : a.tmps.size = 238 ∧ a.defers = [])
          clear h1 h2 h3 h4
          refine wp_seq ?_
          by_cases lti : i < N
          · rw [decide_eq_true lti] at t76
            refine wp_cond_true t76 ?_
            refine wp_skip ?_
            clear t76
            refine wp_seq ?_
            refine wp_block ?_
            obtain ⟨bbb, bbo, bbc, ebb, hbbb, hbbc⟩ := open_sl Fb66 (by omega)
            have cbb : ∀ k, k < N → ∀ X, Below X11.heap.size X11 X → X.cell? ⟨bbb, bbo + k, none⟩ = some (.int .i64 ((fun j => ((N : Nat) : Int) - (j : Int)) k)) := fun k hk X hX => by rw [cell_below hX hbbb]; exact hbbc k hk
            refine wp_seq ?_
            refine wp_region_sq (σ := Unit) 238 [(0, 77), (1, 78), (2, 79), (3, 11), (4, 12)] (fun j_ s X => match j_ with | 0 => Below X11.heap.size X11 X ∧ (X.ownsRow X11.heap.size 3 1 (.slice (some ⟨g72, 0, none⟩) N N) (N) (intsL (N) (fun j => if j < i then (oF df M N j : Int) else 0))) | 1 => Below X11.heap.size X11 X ∧ (X.ownsRow X11.heap.size 3 1 (.slice (some ⟨g72, 0, none⟩) N N) (N) (intsL (N) (fun j => if j < i then (oF df M N j : Int) else 0))) | 2 => Below X11.heap.size X11 X ∧ (X.ownsRow X11.heap.size 3 1 (.slice (some ⟨g72, 0, none⟩) N N) (N) (intsL (N) (fun j => if j < i then (oF df M N j : Int) else 0))) | 3 => Below X11.heap.size X11 X ∧ (X.ownsRow X11.heap.size 3 1 (.slice (some ⟨g72, 0, none⟩) N N) (N) (intsL (N) (fun j => if j < i then (oF df M N j : Int) else 0))) | 4 => Below X11.heap.size X11 X ∧ (X.ownsRow X11.heap.size 3 1 (.slice (some ⟨g72, 0, none⟩) N N) (N) (intsL (N) (fun j => if j < i then (oF df M N j : Int) else 0))) | _ => Below X11.heap.size X11 X ∧ (X.ownsRow X11.heap.size 3 1 (.slice (some ⟨g72, 0, none⟩) N N) (N) (intsL (N) (fun j => if j < i then (oF df M N j : Int) else 0)))) (fun s => fun i_ => match i_ with | 0 => .int .i64 ((i : Nat) : Int) | 1 => .pointer (some ⟨bbb, bbo + i, none⟩) | 2 => .int .i64 ((N - i : Nat) : Int) | 3 => .int .i64 ((i : Nat) : Int) | 4 => .int .i64 ((N - i : Nat) : Int) | _ => undef) () A.1 (by kernel_rfl) (by decide) (by decide) ⟨BB, FW⟩ ?_ ?_
            · intro i_ hi_ s a X hf hv hn hS
              match i_, hi_ with
              | 0, _ => exact stepV rfl rfl (execMvB rfl ((hf 75 (by decide)).trans t75)) ⟨s, ⟨_, rfl, rfl⟩, hS, fun _ _ => rfl⟩
              | 1, _ => exact stepV rfl rfl (execIdxN (k := i) rfl (((hf 73 (by decide)).trans t73).trans ebb) ((hf 75 (by decide)).trans t75) lti) ⟨s, ⟨_, rfl, rfl⟩, hS, fun _ _ => rfl⟩
              | 2, _ => exact stepV rfl rfl (execLd3 rfl (hv 1 (by decide) _ rfl _ rfl) ((cbb i lti X hS.1).trans (by congr 2; show (N : Int) - (i : Int) = ((N - i : Nat) : Int); omega))) ⟨s, ⟨_, rfl, rfl⟩, hS, fun _ _ => rfl⟩
              | 3, _ => exact stepV rfl rfl (execAsgB rfl (hv 0 (by decide) _ rfl _ rfl)) ⟨s, ⟨_, rfl, rfl⟩, hS, fun _ _ => rfl⟩
              | 4, _ => exact stepV rfl rfl (execAsgB rfl (hv 2 (by decide) _ rfl _ rfl)) ⟨s, ⟨_, rfl, rfl⟩, hS, fun _ _ => rfl⟩
              | k_ + 5, h_ => exact absurd h_ (by simp)
            rintro _ a X16 h1 h2 h3 h4 hS
            clear BB
            clear FW
            replace hS : Below X11.heap.size X11 X16 ∧ (X16.ownsRow X11.heap.size 3 1 (.slice (some ⟨g72, 0, none⟩) N N) (N) (intsL (N) (fun j => if j < i then (oF df M N j : Int) else 0))) := hS
            obtain ⟨BB, FW⟩ := hS
            replace t0 := (h3 0 (by decide)).trans t0
            replace t1 := (h3 1 (by decide)).trans t1
            replace t2 := (h3 2 (by decide)).trans t2
            replace t7 := (h3 7 (by decide)).trans t7
            replace t10 := (h3 10 (by decide)).trans t10
            replace t73 := (h3 73 (by decide)).trans t73
            replace t74 := (h3 74 (by decide)).trans t74
            replace t75 := (h3 75 (by decide)).trans t75
            have t11 : a.eval (.tmp 11) = .int .i64 ((i : Nat) : Int) := h4 3 _ rfl _ rfl
            have t12 : a.eval (.tmp 12) = .int .i64 ((N - i : Nat) : Int) := h4 4 _ rfl _ rfl
            replace A := (⟨h1, h2.trans A.2⟩ : a.tmps.size = 238 ∧ a.defers = [])
            clear h1 h2 h3 h4
            refine wp_seq ?_
            refine wp_seq ?_
            refine wp_region_sq (σ := Unit) 238 [(0, 80), (1, 81), (2, 82), (3, 83), (4, 84)] (fun j_ s X => match j_ with | 0 => Below X11.heap.size X11 X ∧ (X.ownsRow X11.heap.size 3 1 (.slice (some ⟨g72, 0, none⟩) N N) (N) (intsL (N) (fun j => if j < i then (oF df M N j : Int) else 0))) | 1 => Below X11.heap.size X11 X ∧ (X.ownsRow X11.heap.size 3 1 (.slice (some ⟨g72, 0, none⟩) N N) (N) (intsL (N) (fun j => if j < i then (oF df M N j : Int) else 0))) | 2 => Below X11.heap.size X11 X ∧ (X.ownsRow X11.heap.size 3 1 (.slice (some ⟨g72, 0, none⟩) N N) (N) (intsL (N) (fun j => if j < i then (oF df M N j : Int) else 0))) | 3 => Below X11.heap.size X11 X ∧ (X.ownsRow X11.heap.size 3 1 (.slice (some ⟨g72, 0, none⟩) N N) (N) (intsL (N) (fun j => if j < i then (oF df M N j : Int) else 0))) | 4 => Below X11.heap.size X11 X ∧ (X.ownsRow X11.heap.size 3 1 (.slice (some ⟨g72, 0, none⟩) N N) (N) (intsL (N) (fun j => if j < i then (oF df M N j : Int) else 0))) | _ => Below X11.heap.size X11 X ∧ (X.ownsRow X11.heap.size 3 1 (.slice (some ⟨g72, 0, none⟩) N N) (N) (intsL (N) (fun j => if j < i then (oF df M N j : Int) else 0)))) (fun s => fun i_ => match i_ with | 0 => .int .i64 ((N - i : Nat) : Int) | 1 => .int .i64 ((N : Nat) : Int) | 2 => .int .i64 ((i : Nat) : Int) | 3 => .int .i64 ((N - i : Nat) : Int) | 4 => .bool false | _ => undef) () A.1 (by kernel_rfl) (by decide) (by decide) ⟨BB, FW⟩ ?_ ?_
            · intro i_ hi_ s a X hf hv hn hS
              match i_, hi_ with
              | 0, _ => exact stepV rfl rfl (execMvB rfl ((hf 12 (by decide)).trans t12)) ⟨s, ⟨_, rfl, rfl⟩, hS, fun _ _ => rfl⟩
              | 1, _ => exact stepV rfl rfl (execMvB rfl ((hf 0 (by decide)).trans t0)) ⟨s, ⟨_, rfl, rfl⟩, hS, fun _ _ => rfl⟩
              | 2, _ => exact stepV rfl rfl (execMvB rfl ((hf 11 (by decide)).trans t11)) ⟨s, ⟨_, rfl, rfl⟩, hS, fun _ _ => rfl⟩
              | 3, _ => exact stepV rfl rfl (By8.execSubI (p := N) (q := i) rfl (hv 1 (by decide) _ rfl _ rfl) (hv 2 (by decide) _ rfl _ rfl) (by omega) (by omega)) ⟨s, ⟨_, rfl, rfl⟩, hS, fun _ _ => rfl⟩
              | 4, _ => exact stepV rfl rfl (execDec (execNeN (p := N - i) (q := N - i) rfl (hv 0 (by decide) _ rfl _ rfl) (hv 3 (by decide) _ rfl _ rfl)) (decide_eq_false (by omega))) ⟨s, ⟨_, rfl, rfl⟩, hS, fun _ _ => rfl⟩
              | k_ + 5, h_ => exact absurd h_ (by simp)
            rintro _ a X17 h1 h2 h3 h4 hS
            clear BB
            clear FW
            replace hS : Below X11.heap.size X11 X17 ∧ (X17.ownsRow X11.heap.size 3 1 (.slice (some ⟨g72, 0, none⟩) N N) (N) (intsL (N) (fun j => if j < i then (oF df M N j : Int) else 0))) := hS
            obtain ⟨BB, FW⟩ := hS
            replace t0 := (h3 0 (by decide)).trans t0
            replace t1 := (h3 1 (by decide)).trans t1
            replace t2 := (h3 2 (by decide)).trans t2
            replace t7 := (h3 7 (by decide)).trans t7
            replace t10 := (h3 10 (by decide)).trans t10
            replace t73 := (h3 73 (by decide)).trans t73
            replace t74 := (h3 74 (by decide)).trans t74
            replace t75 := (h3 75 (by decide)).trans t75
            replace t11 := (h3 11 (by decide)).trans t11
            replace t12 := (h3 12 (by decide)).trans t12
            have t84 : a.eval (.tmp 84) = .bool false := h4 4 _ rfl _ rfl
            replace A := (⟨h1, h2.trans A.2⟩ : a.tmps.size = 238 ∧ a.defers = [])
            clear h1 h2 h3 h4
            refine wp_cond_false t84 ?_
            refine wp_skip ?_
            clear t84
            refine wp_seq ?_
            by_cases hM : i < M
            · refine wp_region_sq (σ := Unit) 238 [(0, 85), (1, 86), (2, 87), (3, 88)] (fun j_ s X => match j_ with | 0 => Below X11.heap.size X11 X ∧ (X.ownsRow X11.heap.size 3 1 (.slice (some ⟨g72, 0, none⟩) N N) (N) (intsL (N) (fun j => if j < i then (oF df M N j : Int) else 0))) | 1 => Below X11.heap.size X11 X ∧ (X.ownsRow X11.heap.size 3 1 (.slice (some ⟨g72, 0, none⟩) N N) (N) (intsL (N) (fun j => if j < i then (oF df M N j : Int) else 0))) | 2 => Below X11.heap.size X11 X ∧ (X.ownsRow X11.heap.size 3 1 (.slice (some ⟨g72, 0, none⟩) N N) (N) (intsL (N) (fun j => if j < i then (oF df M N j : Int) else 0))) | 3 => Below X11.heap.size X11 X ∧ (X.ownsRow X11.heap.size 3 1 (.slice (some ⟨g72, 0, none⟩) N N) (N) (intsL (N) (fun j => if j < i then (oF df M N j : Int) else 0))) | _ => Below X11.heap.size X11 X ∧ (X.ownsRow X11.heap.size 3 1 (.slice (some ⟨g72, 0, none⟩) N N) (N) (intsL (N) (fun j => if j < i then (oF df M N j : Int) else 0)))) (fun s => fun i_ => match i_ with | 0 => .int .i64 ((i : Nat) : Int) | 1 => u2 | 2 => .int .i64 ((M : Nat) : Int) | 3 => .bool true | _ => undef) () A.1 (by kernel_rfl) (by decide) (by decide) ⟨BB, FW⟩ ?_ ?_
              · intro i_ hi_ s a X hf hv hn hS
                match i_, hi_ with
                | 0, _ => exact stepV rfl rfl (execMvB rfl ((hf 11 (by decide)).trans t11)) ⟨s, ⟨_, rfl, rfl⟩, hS, fun _ _ => rfl⟩
                | 1, _ => exact stepV rfl rfl (execMvB rfl ((hf 2 (by decide)).trans t2)) ⟨s, ⟨_, rfl, rfl⟩, hS, fun _ _ => rfl⟩
                | 2, _ => exact stepV rfl rfl (execLenI (len := M) rfl (hv 1 (by decide) _ rfl _ rfl) ((FD.on hS.1)).shp) ⟨s, ⟨_, rfl, rfl⟩, hS, fun _ _ => rfl⟩
                | 3, _ => exact stepV rfl rfl (execDec (execLtW (p := i) (q := M) rfl (hv 0 (by decide) _ rfl _ rfl) (hv 2 (by decide) _ rfl _ rfl)) (decide_eq_true (by omega))) ⟨s, ⟨_, rfl, rfl⟩, hS, fun _ _ => rfl⟩
                | k_ + 4, h_ => exact absurd h_ (by simp)
              rintro _ a X19 h1 h2 h3 h4 hS
              clear BB
              clear FW
              replace hS : Below X11.heap.size X11 X19 ∧ (X19.ownsRow X11.heap.size 3 1 (.slice (some ⟨g72, 0, none⟩) N N) (N) (intsL (N) (fun j => if j < i then (oF df M N j : Int) else 0))) := hS
              obtain ⟨BB, FW⟩ := hS
              replace t0 := (h3 0 (by decide)).trans t0
              replace t1 := (h3 1 (by decide)).trans t1
              replace t2 := (h3 2 (by decide)).trans t2
              replace t7 := (h3 7 (by decide)).trans t7
              replace t10 := (h3 10 (by decide)).trans t10
              replace t73 := (h3 73 (by decide)).trans t73
              replace t74 := (h3 74 (by decide)).trans t74
              replace t75 := (h3 75 (by decide)).trans t75
              replace t11 := (h3 11 (by decide)).trans t11
              replace t12 := (h3 12 (by decide)).trans t12
              have t88 : a.eval (.tmp 88) = .bool true := h4 3 _ rfl _ rfl
              replace A := (⟨h1, h2.trans A.2⟩ : a.tmps.size = 238 ∧ a.defers = [])
              clear h1 h2 h3 h4
              refine wp_cond_true t88 ?_
              clear t88
              obtain ⟨ddb, ddo, ddc, edd, hddb, hddc⟩ := open_sl FD (by omega)
              have cdd : ∀ k, k < M → ∀ X, Below X11.heap.size X11 X → X.cell? ⟨ddb, ddo + k, none⟩ = some (.int .i64 ((df) k)) := fun k hk X hX => by rw [cell_below hX hddb]; exact hddc k hk
              have hdf := FD.fits i hM
              refine wp_region_sq (σ := Unit) 238 [(0, 89), (1, 90), (2, 91), (3, 92), (4, 93), (5, 94), (6, 95), (7, 96), (8, 97)] (fun j_ s X => match j_ with | 0 => Below X11.heap.size X11 X ∧ (X.ownsRow X11.heap.size 3 1 (.slice (some ⟨g72, 0, none⟩) N N) (N) (intsL (N) (fun j => if j < i then (oF df M N j : Int) else 0))) | 1 => Below X11.heap.size X11 X ∧ (X.ownsRow X11.heap.size 3 1 (.slice (some ⟨g72, 0, none⟩) N N) (N) (intsL (N) (fun j => if j < i then (oF df M N j : Int) else 0))) | 2 => Below X11.heap.size X11 X ∧ (X.ownsRow X11.heap.size 3 1 (.slice (some ⟨g72, 0, none⟩) N N) (N) (intsL (N) (fun j => if j < i then (oF df M N j : Int) else 0))) | 3 => Below X11.heap.size X11 X ∧ (X.ownsRow X11.heap.size 3 1 (.slice (some ⟨g72, 0, none⟩) N N) (N) (intsL (N) (fun j => if j < i then (oF df M N j : Int) else 0))) | 4 => Below X11.heap.size X11 X ∧ (X.ownsRow X11.heap.size 3 1 (.slice (some ⟨g72, 0, none⟩) N N) (N) (intsL (N) (fun j => if j < i then (oF df M N j : Int) else 0))) | 5 => Below X11.heap.size X11 X ∧ (X.ownsRow X11.heap.size 3 1 (.slice (some ⟨g72, 0, none⟩) N N) (N) (intsL (N) (fun j => if j < i then (oF df M N j : Int) else 0))) | 6 => Below X11.heap.size X11 X ∧ (X.ownsRow X11.heap.size 3 1 (.slice (some ⟨g72, 0, none⟩) N N) (N) (intsL (N) (fun j => if j < i then (oF df M N j : Int) else 0))) | 7 => Below X11.heap.size X11 X ∧ (X.ownsRow X11.heap.size 3 1 (.slice (some ⟨g72, 0, none⟩) N N) (N) (intsL (N) (fun j => if j < i then (oF df M N j : Int) else 0))) | 8 => Below X11.heap.size X11 X ∧ (X.ownsRow X11.heap.size 3 1 (.slice (some ⟨g72, 0, none⟩) N N) (N) (intsL (N) (fun j => if j < i then (oF df M N j : Int) else 0))) | 9 => Below X11.heap.size X11 X ∧ (X.ownsRow X11.heap.size 3 1 (.slice (some ⟨g72, 0, none⟩) N N) (N) (intsL (N) (fun j => if j < i then (oF df M N j : Int) else 0))) | _ => Below X11.heap.size X11 X ∧ (X.ownsRow X11.heap.size 3 1 (.slice (some ⟨g72, 0, none⟩) N N) (N) (intsL (N) (fun j => if j < (i + 1) then (oF df M N j : Int) else 0)))) (fun s => fun i_ => match i_ with | 0 => .slice (some ⟨g72, 0, none⟩) N N | 1 => .int .i64 ((i : Nat) : Int) | 2 => u2 | 3 => .int .i64 ((i : Nat) : Int) | 4 => .pointer (some ⟨ddb, ddo + i, none⟩) | 5 => .int .i64 (df i) | 6 => .int .i64 ((N - i : Nat) : Int) | 7 => .int .i64 ((plN (df i) (N - i) : Nat) : Int) | 8 => .pointer (some ⟨g72, 0 + i, none⟩) | 9 => undef | _ => undef) () A.1 (by kernel_rfl) (by decide) (by decide) ⟨BB, FW⟩ ?_ ?_
              · intro i_ hi_ s a X hf hv hn hS
                match i_, hi_ with
                | 0, _ => exact stepV rfl rfl (execMvB rfl ((hf 10 (by decide)).trans t10)) ⟨s, ⟨_, rfl, rfl⟩, hS, fun _ _ => rfl⟩
                | 1, _ => exact stepV rfl rfl (execMvB rfl ((hf 11 (by decide)).trans t11)) ⟨s, ⟨_, rfl, rfl⟩, hS, fun _ _ => rfl⟩
                | 2, _ => exact stepV rfl rfl (execMvB rfl ((hf 2 (by decide)).trans t2)) ⟨s, ⟨_, rfl, rfl⟩, hS, fun _ _ => rfl⟩
                | 3, _ => exact stepV rfl rfl (execMvB rfl ((hf 11 (by decide)).trans t11)) ⟨s, ⟨_, rfl, rfl⟩, hS, fun _ _ => rfl⟩
                | 4, _ => exact stepV rfl rfl (execIdxN (k := i) rfl ((hv 2 (by decide) _ rfl _ rfl).trans edd) (hv 3 (by decide) _ rfl _ rfl) hM) ⟨s, ⟨_, rfl, rfl⟩, hS, fun _ _ => rfl⟩
                | 5, _ => exact stepV rfl rfl (execLd3 rfl (hv 4 (by decide) _ rfl _ rfl) (cdd i hM X hS.1)) ⟨s, ⟨_, rfl, rfl⟩, hS, fun _ _ => rfl⟩
                | 6, _ => exact stepV rfl rfl (execMvB rfl ((hf 12 (by decide)).trans t12)) ⟨s, ⟨_, rfl, rfl⟩, hS, fun _ _ => rfl⟩
                | 7, _ => exact stepC rfl rfl (execCall2 Try.func27 (by kernel_rfl) (by kernel_rfl) rfl (hv 5 (by decide) _ rfl _ rfl) (hv 6 (by decide) _ rfl _ rfl)) (pplace (df i) (N - i) X hdf.1 hdf.2 (by omega)) fun e w' hh => ⟨_, hh.1, s, ⟨_, rfl, rfl⟩, ⟨(hS.1).trans ((hh.2).mono (hS.1).size), (ownD_below hS.2 hh.2)⟩, fun _ _ => rfl⟩
                | 8, _ => exact stepV rfl rfl (execIdxN (k := i) rfl (hv 0 (by decide) _ rfl _ rfl) (hv 1 (by decide) _ rfl _ rfl) lti) ⟨s, ⟨_, rfl, rfl⟩, hS, fun _ _ => rfl⟩
                | 9, _ =>
                  obtain ⟨hc_, hf_⟩ := own_cellI hS.2 lti
                  refine stepS rfl rfl (execStI9 rfl (hv 8 (by decide) _ rfl _ rfl) (hv 7 (by decide) _ rfl _ rfl) hc_ hf_) ⟨s, ⟨_, rfl, rfl⟩, ⟨(hS.1).setCell FWg _, own_fill (F := fun j => (oF df M N j : Int)) hS.2 (by show _ = ((oF df M N i : Nat) : Int); unfold oF; rw [if_pos hM])⟩, fun i hi => ?_⟩
                  match i, hi with
                  | 0, _ => rfl
                  | 1, _ => rfl
                  | 2, _ => rfl
                  | 3, _ => rfl
                  | 4, _ => rfl
                  | 5, _ => rfl
                  | 6, _ => rfl
                  | 7, _ => rfl
                  | 8, _ => rfl
                  | n_ + 9, h_ => omega
                | k_ + 10, h_ => exact absurd h_ (by simp)
              rintro _ a X20 h1 h2 h3 h4 hS
              clear BB
              clear FW
              replace hS : Below X11.heap.size X11 X20 ∧ (X20.ownsRow X11.heap.size 3 1 (.slice (some ⟨g72, 0, none⟩) N N) (N) (intsL (N) (fun j => if j < (i + 1) then (oF df M N j : Int) else 0))) := hS
              obtain ⟨BB, FW2⟩ := hS
              replace t0 := (h3 0 (by decide)).trans t0
              replace t1 := (h3 1 (by decide)).trans t1
              replace t2 := (h3 2 (by decide)).trans t2
              replace t7 := (h3 7 (by decide)).trans t7
              replace t10 := (h3 10 (by decide)).trans t10
              replace t73 := (h3 73 (by decide)).trans t73
              replace t74 := (h3 74 (by decide)).trans t74
              replace t75 := (h3 75 (by decide)).trans t75
              replace A := (⟨h1, h2.trans A.2⟩ : a.tmps.size = 238 ∧ a.defers = [])
              clear h1 h2 h3 h4
              clear t11 t12
              refine wp_region_sq (σ := Unit) 238 [(0, 98), (1, 75)] (fun j_ s X => match j_ with | 0 => Below X11.heap.size X11 X ∧ (X.ownsRow X11.heap.size 3 1 (.slice (some ⟨g72, 0, none⟩) N N) (N) (intsL (N) (fun j => if j < (i + 1) then (oF df M N j : Int) else 0))) | 1 => Below X11.heap.size X11 X ∧ (X.ownsRow X11.heap.size 3 1 (.slice (some ⟨g72, 0, none⟩) N N) (N) (intsL (N) (fun j => if j < (i + 1) then (oF df M N j : Int) else 0))) | _ => Below X11.heap.size X11 X ∧ (X.ownsRow X11.heap.size 3 1 (.slice (some ⟨g72, 0, none⟩) N N) (N) (intsL (N) (fun j => if j < (i + 1) then (oF df M N j : Int) else 0)))) (fun s => fun i_ => match i_ with | 0 => .int .i64 ((i + 1 : Nat) : Int) | 1 => .int .i64 ((i + 1 : Nat) : Int) | _ => undef) () A.1 (by kernel_rfl) (by decide) (by decide) ⟨BB, FW2⟩ ?_ ?_
              · intro i_ hi_ s a X hf hv hn hS
                match i_, hi_ with
                | 0, _ => exact stepV rfl rfl (execAd8 (p := i) (q := 1) rfl ((hn 1 (by decide) _ rfl _ rfl).trans t75) rfl (by omega)) ⟨s, ⟨_, rfl, rfl⟩, hS, fun _ _ => rfl⟩
                | 1, _ => exact stepV rfl rfl (execMvB rfl (hv 0 (by decide) _ rfl _ rfl)) ⟨s, ⟨_, rfl, rfl⟩, hS, fun _ _ => rfl⟩
                | k_ + 2, h_ => exact absurd h_ (by simp)
              rintro _ a X21 h1 h2 h3 h4 hS
              clear BB
              clear FW2
              replace hS : Below X11.heap.size X11 X21 ∧ (X21.ownsRow X11.heap.size 3 1 (.slice (some ⟨g72, 0, none⟩) N N) (N) (intsL (N) (fun j => if j < (i + 1) then (oF df M N j : Int) else 0))) := hS
              obtain ⟨BB, FW2⟩ := hS
              replace t0 := (h3 0 (by decide)).trans t0
              replace t1 := (h3 1 (by decide)).trans t1
              replace t2 := (h3 2 (by decide)).trans t2
              replace t7 := (h3 7 (by decide)).trans t7
              replace t10 := (h3 10 (by decide)).trans t10
              replace t73 := (h3 73 (by decide)).trans t73
              replace t74 := (h3 74 (by decide)).trans t74
              replace t75 : a.eval (.tmp 75) = .int .i64 ((i + 1 : Nat) : Int) := h4 1 _ rfl _ rfl
              replace A := (⟨h1, h2.trans A.2⟩ : a.tmps.size = 238 ∧ a.defers = [])
              clear h1 h2 h3 h4
              exact ⟨⟨i + 1, lti, A, t0, t1, t2, t7, t10, t73, t74, t75, BB, FW2⟩, by show N - (intOf (a.eval (.tmp 75))).toNat < N - (intOf (Act.eval _ (.tmp 75))).toNat; rw [t75, esi]; show N - (i + 1) < N - i; omega⟩
            · refine wp_region_sq (σ := Unit) 238 [(0, 85), (1, 86), (2, 87), (3, 88)] (fun j_ s X => match j_ with | 0 => Below X11.heap.size X11 X ∧ (X.ownsRow X11.heap.size 3 1 (.slice (some ⟨g72, 0, none⟩) N N) (N) (intsL (N) (fun j => if j < i then (oF df M N j : Int) else 0))) | 1 => Below X11.heap.size X11 X ∧ (X.ownsRow X11.heap.size 3 1 (.slice (some ⟨g72, 0, none⟩) N N) (N) (intsL (N) (fun j => if j < i then (oF df M N j : Int) else 0))) | 2 => Below X11.heap.size X11 X ∧ (X.ownsRow X11.heap.size 3 1 (.slice (some ⟨g72, 0, none⟩) N N) (N) (intsL (N) (fun j => if j < i then (oF df M N j : Int) else 0))) | 3 => Below X11.heap.size X11 X ∧ (X.ownsRow X11.heap.size 3 1 (.slice (some ⟨g72, 0, none⟩) N N) (N) (intsL (N) (fun j => if j < i then (oF df M N j : Int) else 0))) | _ => Below X11.heap.size X11 X ∧ (X.ownsRow X11.heap.size 3 1 (.slice (some ⟨g72, 0, none⟩) N N) (N) (intsL (N) (fun j => if j < i then (oF df M N j : Int) else 0)))) (fun s => fun i_ => match i_ with | 0 => .int .i64 ((i : Nat) : Int) | 1 => u2 | 2 => .int .i64 ((M : Nat) : Int) | 3 => .bool false | _ => undef) () A.1 (by kernel_rfl) (by decide) (by decide) ⟨BB, FW⟩ ?_ ?_
              · intro i_ hi_ s a X hf hv hn hS
                match i_, hi_ with
                | 0, _ => exact stepV rfl rfl (execMvB rfl ((hf 11 (by decide)).trans t11)) ⟨s, ⟨_, rfl, rfl⟩, hS, fun _ _ => rfl⟩
                | 1, _ => exact stepV rfl rfl (execMvB rfl ((hf 2 (by decide)).trans t2)) ⟨s, ⟨_, rfl, rfl⟩, hS, fun _ _ => rfl⟩
                | 2, _ => exact stepV rfl rfl (execLenI (len := M) rfl (hv 1 (by decide) _ rfl _ rfl) ((FD.on hS.1)).shp) ⟨s, ⟨_, rfl, rfl⟩, hS, fun _ _ => rfl⟩
                | 3, _ => exact stepV rfl rfl (execDec (execLtW (p := i) (q := M) rfl (hv 0 (by decide) _ rfl _ rfl) (hv 2 (by decide) _ rfl _ rfl)) (decide_eq_false (by omega))) ⟨s, ⟨_, rfl, rfl⟩, hS, fun _ _ => rfl⟩
                | k_ + 4, h_ => exact absurd h_ (by simp)
              rintro _ a X19 h1 h2 h3 h4 hS
              clear BB
              clear FW
              replace hS : Below X11.heap.size X11 X19 ∧ (X19.ownsRow X11.heap.size 3 1 (.slice (some ⟨g72, 0, none⟩) N N) (N) (intsL (N) (fun j => if j < i then (oF df M N j : Int) else 0))) := hS
              obtain ⟨BB, FW⟩ := hS
              replace t0 := (h3 0 (by decide)).trans t0
              replace t1 := (h3 1 (by decide)).trans t1
              replace t2 := (h3 2 (by decide)).trans t2
              replace t7 := (h3 7 (by decide)).trans t7
              replace t10 := (h3 10 (by decide)).trans t10
              replace t73 := (h3 73 (by decide)).trans t73
              replace t74 := (h3 74 (by decide)).trans t74
              replace t75 := (h3 75 (by decide)).trans t75
              replace t11 := (h3 11 (by decide)).trans t11
              replace t12 := (h3 12 (by decide)).trans t12
              have t88 : a.eval (.tmp 88) = .bool false := h4 3 _ rfl _ rfl
              replace A := (⟨h1, h2.trans A.2⟩ : a.tmps.size = 238 ∧ a.defers = [])
              clear h1 h2 h3 h4
              refine wp_cond_false t88 ?_
              refine wp_skip ?_
              clear t88 t11 t12
              have FW2 := own_zero (F := fun j => (oF df M N j : Int)) FW (by show ((oF df M N i : Nat) : Int) = 0; unfold oF; rw [if_neg hM]; rfl)
              clear FW
              refine wp_region_sq (σ := Unit) 238 [(0, 98), (1, 75)] (fun j_ s X => match j_ with | 0 => Below X11.heap.size X11 X ∧ (X.ownsRow X11.heap.size 3 1 (.slice (some ⟨g72, 0, none⟩) N N) (N) (intsL (N) (fun j => if j < (i + 1) then (oF df M N j : Int) else 0))) | 1 => Below X11.heap.size X11 X ∧ (X.ownsRow X11.heap.size 3 1 (.slice (some ⟨g72, 0, none⟩) N N) (N) (intsL (N) (fun j => if j < (i + 1) then (oF df M N j : Int) else 0))) | _ => Below X11.heap.size X11 X ∧ (X.ownsRow X11.heap.size 3 1 (.slice (some ⟨g72, 0, none⟩) N N) (N) (intsL (N) (fun j => if j < (i + 1) then (oF df M N j : Int) else 0)))) (fun s => fun i_ => match i_ with | 0 => .int .i64 ((i + 1 : Nat) : Int) | 1 => .int .i64 ((i + 1 : Nat) : Int) | _ => undef) () A.1 (by kernel_rfl) (by decide) (by decide) ⟨BB, FW2⟩ ?_ ?_
              · intro i_ hi_ s a X hf hv hn hS
                match i_, hi_ with
                | 0, _ => exact stepV rfl rfl (execAd8 (p := i) (q := 1) rfl ((hn 1 (by decide) _ rfl _ rfl).trans t75) rfl (by omega)) ⟨s, ⟨_, rfl, rfl⟩, hS, fun _ _ => rfl⟩
                | 1, _ => exact stepV rfl rfl (execMvB rfl (hv 0 (by decide) _ rfl _ rfl)) ⟨s, ⟨_, rfl, rfl⟩, hS, fun _ _ => rfl⟩
                | k_ + 2, h_ => exact absurd h_ (by simp)
              rintro _ a X21 h1 h2 h3 h4 hS
              clear BB
              clear FW2
              replace hS : Below X11.heap.size X11 X21 ∧ (X21.ownsRow X11.heap.size 3 1 (.slice (some ⟨g72, 0, none⟩) N N) (N) (intsL (N) (fun j => if j < (i + 1) then (oF df M N j : Int) else 0))) := hS
              obtain ⟨BB, FW2⟩ := hS
              replace t0 := (h3 0 (by decide)).trans t0
              replace t1 := (h3 1 (by decide)).trans t1
              replace t2 := (h3 2 (by decide)).trans t2
              replace t7 := (h3 7 (by decide)).trans t7
              replace t10 := (h3 10 (by decide)).trans t10
              replace t73 := (h3 73 (by decide)).trans t73
              replace t74 := (h3 74 (by decide)).trans t74
              replace t75 : a.eval (.tmp 75) = .int .i64 ((i + 1 : Nat) : Int) := h4 1 _ rfl _ rfl
              replace A := (⟨h1, h2.trans A.2⟩ : a.tmps.size = 238 ∧ a.defers = [])
              clear h1 h2 h3 h4
              exact ⟨⟨i + 1, lti, A, t0, t1, t2, t7, t10, t73, t74, t75, BB, FW2⟩, by show N - (intOf (a.eval (.tmp 75))).toNat < N - (intOf (Act.eval _ (.tmp 75))).toNat; rw [t75, esi]; show N - (i + 1) < N - i; omega⟩
          · rw [decide_eq_false lti] at t76
            refine wp_cond_false t76 ?_
            refine wp_exit ?_
            first | with_reducible refine exit_in ?_ | with_reducible refine exit_then (exit_in ?_) | with_reducible refine exit_then (exit_then (exit_in ?_)) | refine exit_in ?_ | refine exit_then (exit_in ?_) | refine exit_then (exit_then (exit_in ?_))
            clear t76 esi
            have hiN : i = N := by omega
            rw [hiN, intsL_congr (g := fun j => (oF df M N j : Int)) (fun j hj => if_pos hj)] at FW
            clear t2 t73 t74 t75
            clear hiN lti hi
            have FXs : SliceI X15 (.slice (some ⟨g72, 0, none⟩) N N) N (fun j => (oF df M N j : Int)) := own_ints FW (oF_fits df M N (by omega))
            clear FW
            replace FD := (FD.on BB)
            replace Fz32 := (Fz32.on BB)
            replace Fb66 := (Fb66.on BB)
            replace BW := BW.trans (BB.mono BW.size)
            clear BB
            clear Fb66
            clear FD
            refine wp_seq ?_
            refine wp_region_sq (σ := Unit) 238 [(0, 13)] (fun j_ s X => match j_ with | 0 => Below X15.heap.size X15 X | _ => Below X15.heap.size X15 X) (fun s => fun i_ => match i_ with | 0 => .slice none 0 0 | _ => undef) () A.1 (by kernel_rfl) (by decide) (by decide) (Below.refl _ _) ?_ ?_
            · intro i_ hi_ s a X hf hv hn hS
              match i_, hi_ with
              | 0, _ => exact stepV rfl rfl (execAsgB rfl rfl) ⟨s, ⟨_, rfl, rfl⟩, hS, fun _ _ => rfl⟩
              | k_ + 1, h_ => exact absurd h_ (by simp)
            rintro _ a X22 h1 h2 h3 h4 hS
            replace hS : Below X15.heap.size X15 X22 := hS
            have bX := hS
            clear hS
            replace t0 := (h3 0 (by decide)).trans t0
            replace t1 := (h3 1 (by decide)).trans t1
            replace t7 := (h3 7 (by decide)).trans t7
            replace t10 := (h3 10 (by decide)).trans t10
            have t13 : a.eval (.tmp 13) = .slice none 0 0 := h4 0 _ rfl _ rfl
            replace Fz32 := (Fz32.on bX)
            replace FXs := (FXs.on bX)
            have ZX22 := bX.size
            replace BW := BW.trans (bX.mono BW.size)
            clear bX
            replace A := (⟨h1, h2.trans A.2⟩ : a.tmps.size = 238 ∧ a.defers = [])
            clear h1 h2 h3 h4
            refine wp_seq ?_
            refine wp_region_sq (σ := Unit) 238 [(0, 14)] (fun j_ s X => match j_ with | 0 => Below X22.heap.size X22 X | _ => Below X22.heap.size X22 X) (fun s => fun i_ => match i_ with | 0 => .int .i64 ((0 : Nat) : Int) | _ => undef) () A.1 (by kernel_rfl) (by decide) (by decide) (Below.refl _ _) ?_ ?_
            · intro i_ hi_ s a X hf hv hn hS
              match i_, hi_ with
              | 0, _ => exact stepV rfl rfl (execAsgB rfl rfl) ⟨s, ⟨_, rfl, rfl⟩, hS, fun _ _ => rfl⟩
              | k_ + 1, h_ => exact absurd h_ (by simp)
            rintro _ a X23 h1 h2 h3 h4 hS
            replace hS : Below X22.heap.size X22 X23 := hS
            have bX := hS
            clear hS
            replace t0 := (h3 0 (by decide)).trans t0
            replace t1 := (h3 1 (by decide)).trans t1
            replace t7 := (h3 7 (by decide)).trans t7
            replace t10 := (h3 10 (by decide)).trans t10
            replace t13 := (h3 13 (by decide)).trans t13
            have t14 : a.eval (.tmp 14) = .int .i64 ((0 : Nat) : Int) := h4 0 _ rfl _ rfl
            replace Fz32 := (Fz32.on bX)
            replace FXs := (FXs.on bX)
            have ZX23 := bX.size
            replace BW := BW.trans (bX.mono BW.size)
            clear bX
            replace A := (⟨h1, h2.trans A.2⟩ : a.tmps.size = 238 ∧ a.defers = [])
            clear h1 h2 h3 h4
            refine wp_seq ?_
            refine wp_seq ?_
            refine wp_region_sq (σ := Unit) 238 [(0, 99), (1, 100), (2, 101)] (fun j_ s X => match j_ with | 0 => Below X23.heap.size X23 X | 1 => Below X23.heap.size X23 X | 2 => Below X23.heap.size X23 X | _ => Below X23.heap.size X23 X) (fun s => fun i_ => match i_ with | 0 => z32 | 1 => .int .i64 ((D : Nat) : Int) | 2 => .int .i64 ((0 : Nat) : Int) | _ => undef) () A.1 (by kernel_rfl) (by decide) (by decide) (Below.refl _ _) ?_ ?_
            · intro i_ hi_ s a X hf hv hn hS
              match i_, hi_ with
              | 0, _ => exact stepV rfl rfl (execMvB rfl ((hf 7 (by decide)).trans t7)) ⟨s, ⟨_, rfl, rfl⟩, hS, fun _ _ => rfl⟩
              | 1, _ => exact stepV rfl rfl (execLenI (len := D) rfl (hv 0 (by decide) _ rfl _ rfl) ((Fz32.on hS)).shp) ⟨s, ⟨_, rfl, rfl⟩, hS, fun _ _ => rfl⟩
              | 2, _ => exact stepV rfl rfl (execMvB rfl rfl) ⟨s, ⟨_, rfl, rfl⟩, hS, fun _ _ => rfl⟩
              | k_ + 3, h_ => exact absurd h_ (by simp)
            rintro _ a X24 h1 h2 h3 h4 hS
            replace hS : Below X23.heap.size X23 X24 := hS
            have bX := hS
            clear hS
            replace t0 := (h3 0 (by decide)).trans t0
            replace t1 := (h3 1 (by decide)).trans t1
            replace t7 := (h3 7 (by decide)).trans t7
            replace t10 := (h3 10 (by decide)).trans t10
            replace t13 := (h3 13 (by decide)).trans t13
            replace t14 := (h3 14 (by decide)).trans t14
            have t99 : a.eval (.tmp 99) = z32 := h4 0 _ rfl _ rfl
            have t100 : a.eval (.tmp 100) = .int .i64 ((D : Nat) : Int) := h4 1 _ rfl _ rfl
            have t101 : a.eval (.tmp 101) = .int .i64 ((0 : Nat) : Int) := h4 2 _ rfl _ rfl
            replace Fz32 := (Fz32.on bX)
            replace FXs := (FXs.on bX)
            have ZX24 := bX.size
            replace BW := BW.trans (bX.mono BW.size)
            clear bX
            replace A := (⟨h1, h2.trans A.2⟩ : a.tmps.size = 238 ∧ a.defers = [])
            clear h1 h2 h3 h4
            have BB : Below X24.heap.size X24 X24 := Below.refl _ _
            have FM : (FmI X24.heap.size 0 (fun _ => undef) (szF N D) (ggS N D) X24) := ⟨fun t ht => absurd ht (Nat.not_lt_zero _), fun s t hs => absurd hs (Nat.not_lt_zero _)⟩
            have FP : (X24.ownsRow X24.heap.size 23 1 (.slice none 0 0) 0 (lL (fun _ => undef) 0)) := World.ownsRow_nil _ _ _ _
            refine wp_block ?_
            refine wp_loop (fun a W => ∃ (j : Nat) (p : Value) (x : Nat → Value), j ≤ D ∧ (a.tmps.size = 238 ∧ a.defers = []) ∧ a.eval (.tmp 0) = .int .i64 ((N : Nat) : Int) ∧ a.eval (.tmp 1) = .int .i64 ((D : Nat) : Int) ∧ a.eval (.tmp 7) = z32 ∧ a.eval (.tmp 10) = .slice (some ⟨g72, 0, none⟩) N N ∧ a.eval (.tmp 13) = p ∧ a.eval (.tmp 14) = .int .i64 ((sumN (szF N D) j : Nat) : Int) ∧ a.eval (.tmp 99) = z32 ∧ a.eval (.tmp 100) = .int .i64 ((D : Nat) : Int) ∧ a.eval (.tmp 101) = .int .i64 ((j : Nat) : Int) ∧ Below X24.heap.size X24 W ∧ (FmI X24.heap.size j (x) (szF N D) (ggS N D) W) ∧ (W.ownsRow X24.heap.size 23 1 p j (lL (x) j))) (fun a _ => D - (intOf (a.eval (.tmp 101))).toNat) ⟨0, _, fun _ => undef, Nat.zero_le _, A, t0, t1, t7, t10, t13, t14, t99, t100, t101, BB, FM, FP⟩ ?_
            clear A t0 t1 t7 t10 t13 t14 t99 t100 t101 BB FM FP a
            rintro a XL25 ⟨j, p, x, hj, A, t0, t1, t7, t10, t13, t14, t99, t100, t101, BB, FM, FP⟩
            have esj := t101
            refine wp_seq ?_
            refine wp_region_sq (σ := Unit) 238 [(0, 102)] (fun j_ s X => match j_ with | 0 => Below X24.heap.size X24 X ∧ (FmI X24.heap.size j (x) (szF N D) (ggS N D) X) ∧ (X.ownsRow X24.heap.size 23 1 p j (lL (x) j)) | _ => Below X24.heap.size X24 X ∧ (FmI X24.heap.size j (x) (szF N D) (ggS N D) X) ∧ (X.ownsRow X24.heap.size 23 1 p j (lL (x) j))) (fun s => fun i_ => match i_ with | 0 => .bool (decide (j < D)) | _ => undef) () A.1 (by kernel_rfl) (by decide) (by decide) ⟨BB, FM, FP⟩ ?_ ?_
            · intro i_ hi_ s a X hf hv hn hS
              match i_, hi_ with
              | 0, _ => exact stepV rfl rfl (execLtW (p := j) (q := D) rfl ((hf 101 (by decide)).trans t101) ((hf 100 (by decide)).trans t100)) ⟨s, ⟨_, rfl, rfl⟩, hS, fun _ _ => rfl⟩
              | k_ + 1, h_ => exact absurd h_ (by simp)
            rintro _ a X25 h1 h2 h3 h4 hS
            clear BB
            clear FM
            clear FP
            replace hS : Below X24.heap.size X24 X25 ∧ (FmI X24.heap.size j (x) (szF N D) (ggS N D) X25) ∧ (X25.ownsRow X24.heap.size 23 1 p j (lL (x) j)) := hS
            obtain ⟨BB, FM, FP⟩ := hS
            replace t0 := (h3 0 (by decide)).trans t0
            replace t1 := (h3 1 (by decide)).trans t1
            replace t7 := (h3 7 (by decide)).trans t7
            replace t10 := (h3 10 (by decide)).trans t10
            replace t13 := (h3 13 (by decide)).trans t13
            replace t14 := (h3 14 (by decide)).trans t14
            replace t99 := (h3 99 (by decide)).trans t99
            replace t100 := (h3 100 (by decide)).trans t100
            replace t101 := (h3 101 (by decide)).trans t101
            have t102 : a.eval (.tmp 102) = .bool (decide (j < D)) := h4 0 _ rfl _ rfl
            replace A := (⟨h1, h2.trans A.2⟩ : a.tmps.size = 238 ∧ a.defers = [])
            clear h1 h2 h3 h4
            refine wp_seq ?_
            by_cases ltj : j < D
            · rw [decide_eq_true ltj] at t102
              refine wp_cond_true t102 ?_
              refine wp_skip ?_
              clear t102
              refine wp_seq ?_
              refine wp_block ?_
              obtain ⟨zzb, zzo, zzc, ezz, hzzb, hzzc⟩ := open_sl Fz32 (by omega)
              have czz : ∀ k, k < D → ∀ X, Below X24.heap.size X24 X → X.cell? ⟨zzb, zzo + k, none⟩ = some (.int .i64 ((fun j => (szF N D j : Int)) k)) := fun k hk X hX => by rw [cell_below hX hzzb]; exact hzzc k hk
              obtain ⟨hA1, hA2, hA3, hA4⟩ := sz_ord N hD0 ltj
              have hsa := sumN_at (r := szF N D) ltj
              rw [hss] at hsa
              refine wp_seq ?_
              refine wp_region_sq (σ := Unit) 238 [(0, 103), (1, 104), (2, 105), (3, 15), (4, 16)] (fun j_ s X => match j_ with | 0 => Below X24.heap.size X24 X ∧ (FmI X24.heap.size j (x) (szF N D) (ggS N D) X) ∧ (X.ownsRow X24.heap.size 23 1 p j (lL (x) j)) | 1 => Below X24.heap.size X24 X ∧ (FmI X24.heap.size j (x) (szF N D) (ggS N D) X) ∧ (X.ownsRow X24.heap.size 23 1 p j (lL (x) j)) | 2 => Below X24.heap.size X24 X ∧ (FmI X24.heap.size j (x) (szF N D) (ggS N D) X) ∧ (X.ownsRow X24.heap.size 23 1 p j (lL (x) j)) | 3 => Below X24.heap.size X24 X ∧ (FmI X24.heap.size j (x) (szF N D) (ggS N D) X) ∧ (X.ownsRow X24.heap.size 23 1 p j (lL (x) j)) | 4 => Below X24.heap.size X24 X ∧ (FmI X24.heap.size j (x) (szF N D) (ggS N D) X) ∧ (X.ownsRow X24.heap.size 23 1 p j (lL (x) j)) | _ => Below X24.heap.size X24 X ∧ (FmI X24.heap.size j (x) (szF N D) (ggS N D) X) ∧ (X.ownsRow X24.heap.size 23 1 p j (lL (x) j))) (fun s => fun i_ => match i_ with | 0 => .int .i64 ((j : Nat) : Int) | 1 => .pointer (some ⟨zzb, zzo + j, none⟩) | 2 => .int .i64 ((szF N D j : Nat) : Int) | 3 => .int .i64 ((j : Nat) : Int) | 4 => .int .i64 ((szF N D j : Nat) : Int) | _ => undef) () A.1 (by kernel_rfl) (by decide) (by decide) ⟨BB, FM, FP⟩ ?_ ?_
              · intro i_ hi_ s a X hf hv hn hS
                match i_, hi_ with
                | 0, _ => exact stepV rfl rfl (execMvB rfl ((hf 101 (by decide)).trans t101)) ⟨s, ⟨_, rfl, rfl⟩, hS, fun _ _ => rfl⟩
                | 1, _ => exact stepV rfl rfl (execIdxN (k := j) rfl (((hf 99 (by decide)).trans t99).trans ezz) ((hf 101 (by decide)).trans t101) (by omega)) ⟨s, ⟨_, rfl, rfl⟩, hS, fun _ _ => rfl⟩
                | 2, _ => exact stepV rfl rfl (execLd3 rfl (hv 1 (by decide) _ rfl _ rfl) (czz j (by omega) X hS.1)) ⟨s, ⟨_, rfl, rfl⟩, hS, fun _ _ => rfl⟩
                | 3, _ => exact stepV rfl rfl (execAsgB rfl (hv 0 (by decide) _ rfl _ rfl)) ⟨s, ⟨_, rfl, rfl⟩, hS, fun _ _ => rfl⟩
                | 4, _ => exact stepV rfl rfl (execAsgB rfl (hv 2 (by decide) _ rfl _ rfl)) ⟨s, ⟨_, rfl, rfl⟩, hS, fun _ _ => rfl⟩
                | k_ + 5, h_ => exact absurd h_ (by simp)
              rintro _ a X26 h1 h2 h3 h4 hS
              clear BB
              clear FM
              clear FP
              replace hS : Below X24.heap.size X24 X26 ∧ (FmI X24.heap.size j (x) (szF N D) (ggS N D) X26) ∧ (X26.ownsRow X24.heap.size 23 1 p j (lL (x) j)) := hS
              obtain ⟨BB, FM, FP⟩ := hS
              replace t0 := (h3 0 (by decide)).trans t0
              replace t1 := (h3 1 (by decide)).trans t1
              replace t7 := (h3 7 (by decide)).trans t7
              replace t10 := (h3 10 (by decide)).trans t10
              replace t13 := (h3 13 (by decide)).trans t13
              replace t14 := (h3 14 (by decide)).trans t14
              replace t99 := (h3 99 (by decide)).trans t99
              replace t100 := (h3 100 (by decide)).trans t100
              replace t101 := (h3 101 (by decide)).trans t101
              have t15 : a.eval (.tmp 15) = .int .i64 ((j : Nat) : Int) := h4 3 _ rfl _ rfl
              have t16 : a.eval (.tmp 16) = .int .i64 ((szF N D j : Nat) : Int) := h4 4 _ rfl _ rfl
              replace A := (⟨h1, h2.trans A.2⟩ : a.tmps.size = 238 ∧ a.defers = [])
              clear h1 h2 h3 h4
              refine wp_seq ?_
              refine wp_seq ?_
              by_cases hj0 : 0 < j
              · have hA5 := hA4 hj0
                refine wp_region_detA 238 [(0, 106), (1, 107), (2, 108), (3, 109), (4, 110), (5, 111), (6, 112), (7, 113), (8, 114), (9, 115), (10, 116), (11, 117), (12, 118), (13, 119), (14, 120), (15, 121), (16, 122), (17, 123), (18, 124), (19, 125), (20, 126), (21, 127), (22, 128), (23, 129), (24, 130), (25, 131), (26, 132), (27, 133), (28, 134), (29, 135), (30, 136), (31, 137), (32, 138), (33, 139), (34, 140), (35, 141), (36, 142), (37, 143), (38, 144)] (fun i_ => match i_ with | 0 => .int .i64 ((szF N D j : Nat) : Int) | 1 => z32 | 2 => .int .i64 ((D : Nat) : Int) | 3 => .int .i64 ((D - 1 : Nat) : Int) | 4 => .pointer (some ⟨zzb, zzo + (D - 1), none⟩) | 5 => .int .i64 ((szF N D (D - 1) : Nat) : Int) | 6 => .bool false | 7 => .bool false | 8 => .int .i64 ((szF N D j : Nat) : Int) | 9 => z32 | 10 => .pointer (some ⟨zzb, zzo + 0, none⟩) | 11 => .int .i64 ((szF N D 0 : Nat) : Int) | 12 => .bool false | 13 => .bool false | 14 => .bool false | 15 => z32 | 16 => .pointer (some ⟨zzb, zzo + 0, none⟩) | 17 => .int .i64 ((szF N D 0 : Nat) : Int) | 18 => z32 | 19 => .int .i64 ((D : Nat) : Int) | 20 => .int .i64 ((D - 1 : Nat) : Int) | 21 => .pointer (some ⟨zzb, zzo + (D - 1), none⟩) | 22 => .int .i64 ((szF N D (D - 1) : Nat) : Int) | 23 => .int .i64 ((szF N D 0 - (szF N D (D - 1)) : Nat) : Int) | 24 => .bool false | 25 => .bool false | 26 => .bool false | 27 => .int .i64 ((j : Nat) : Int) | 28 => .bool true | 29 => .bool true | 30 => .int .i64 ((szF N D j : Nat) : Int) | 31 => z32 | 32 => .int .i64 ((j : Nat) : Int) | 33 => .int .i64 ((j - 1 : Nat) : Int) | 34 => .pointer (some ⟨zzb, zzo + (j - 1), none⟩) | 35 => .int .i64 ((szF N D (j - 1) : Nat) : Int) | 36 => .bool false | 37 => .bool false | 38 => .bool false | _ => undef) (fun _ X => Below X24.heap.size X24 X ∧ (FmI X24.heap.size j (x) (szF N D) (ggS N D) X) ∧ (X.ownsRow X24.heap.size 23 1 p j (lL (x) j))) (by kernel_rfl) (by kernel_rfl) A.1 (by kernel_rfl) (by decide) (by decide) ⟨BB.drew, (FM.on (Below.refl _ _).drew), (ownD_below FP (Below.refl _ _).drew)⟩ ?_ ?_
                · intro i_ hi_ l_ a X hl_ hf hdep hl2 hcl hno hT
                  match i_, hi_ with
                  | 0, _ => exact stepV rfl rfl (execMvB rfl ((hf 16 (by decide)).trans t16)) ⟨⟨_, rfl, rfl⟩, hT⟩
                  | 1, _ => exact stepV rfl rfl (execMvB rfl ((hf 7 (by decide)).trans t7)) ⟨⟨_, rfl, rfl⟩, hT⟩
                  | 2, _ => exact stepV rfl rfl (execMvB rfl ((hf 1 (by decide)).trans t1)) ⟨⟨_, rfl, rfl⟩, hT⟩
                  | 3, _ => exact stepV rfl rfl (By8.execSubI (p := D) (q := 1) rfl (hdep _ rfl 2 rfl _ rfl _ rfl) rfl (by omega) (by omega)) ⟨⟨_, rfl, rfl⟩, hT⟩
                  | 4, _ => exact stepV rfl rfl (execIdxN (k := D - 1) rfl ((hdep _ rfl 1 rfl _ rfl _ rfl).trans ezz) (hdep _ rfl 3 rfl _ rfl _ rfl) (by omega)) ⟨⟨_, rfl, rfl⟩, hT⟩
                  | 5, _ => exact stepV rfl rfl (execLd3 rfl (hdep _ rfl 4 rfl _ rfl _ rfl) (czz (D - 1) (by omega) X hT.1)) ⟨⟨_, rfl, rfl⟩, hT⟩
                  | 6, _ => exact stepV rfl rfl (execDec (execLtW (p := szF N D j) (q := szF N D (D - 1)) rfl (hdep _ rfl 0 rfl _ rfl _ rfl) (hdep _ rfl 5 rfl _ rfl _ rfl)) (decide_eq_false (by omega))) ⟨⟨_, rfl, rfl⟩, hT⟩
                  | 7, _ => exact stepV rfl rfl (execMvB rfl (hdep _ rfl 6 rfl _ rfl _ rfl)) ⟨⟨_, rfl, rfl⟩, hT⟩
                  | 8, _ => exact stepV rfl (wantedOf rfl (yieldedAt rfl rfl (show a.eval (.tmp 113) = .bool false from (hdep _ rfl 7 rfl _ rfl _ rfl)))) (execMvB rfl ((hf 16 (by decide)).trans t16)) ⟨⟨_, rfl, rfl⟩, hT⟩
                  | 9, _ => exact stepV rfl (wantedOf rfl (yieldedAt rfl rfl (show a.eval (.tmp 113) = .bool false from (hdep _ rfl 7 rfl _ rfl _ rfl)))) (execMvB rfl ((hf 7 (by decide)).trans t7)) ⟨⟨_, rfl, rfl⟩, hT⟩
                  | 10, _ => exact stepV rfl (wantedOf rfl (yieldedAt rfl rfl (show a.eval (.tmp 113) = .bool false from (hdep _ rfl 7 rfl _ rfl _ rfl)))) (execIdxN (k := 0) rfl ((hdep _ rfl 9 rfl _ rfl _ rfl).trans ezz) rfl (by omega)) ⟨⟨_, rfl, rfl⟩, hT⟩
                  | 11, _ => exact stepV rfl (wantedOf rfl (yieldedAt rfl rfl (show a.eval (.tmp 113) = .bool false from (hdep _ rfl 7 rfl _ rfl _ rfl)))) (execLd3 rfl (hdep _ rfl 10 rfl _ rfl _ rfl) (czz 0 (by omega) X hT.1)) ⟨⟨_, rfl, rfl⟩, hT⟩
                  | 12, _ => exact stepV rfl (wantedOf rfl (yieldedAt rfl rfl (show a.eval (.tmp 113) = .bool false from (hdep _ rfl 7 rfl _ rfl _ rfl)))) (execDec (execGtN (p := szF N D j) (q := szF N D 0) rfl (hdep _ rfl 8 rfl _ rfl _ rfl) (hdep _ rfl 11 rfl _ rfl _ rfl)) (decide_eq_false (by omega))) ⟨⟨_, rfl, rfl⟩, hT⟩
                  | 13, _ => exact stepV rfl rfl (execPickF rfl (hdep _ rfl 7 rfl _ rfl _ rfl) (hdep _ rfl 12 rfl _ rfl _ rfl)) ⟨⟨_, rfl, rfl⟩, hT⟩
                  | 14, _ => exact stepV rfl rfl (execMvB rfl (hdep _ rfl 13 rfl _ rfl _ rfl)) ⟨⟨_, rfl, rfl⟩, hT⟩
                  | 15, _ => exact stepV rfl (wantedOf rfl (yieldedAt rfl rfl (show a.eval (.tmp 120) = .bool false from (hdep _ rfl 14 rfl _ rfl _ rfl)))) (execMvB rfl ((hf 7 (by decide)).trans t7)) ⟨⟨_, rfl, rfl⟩, hT⟩
                  | 16, _ => exact stepV rfl (wantedOf rfl (yieldedAt rfl rfl (show a.eval (.tmp 120) = .bool false from (hdep _ rfl 14 rfl _ rfl _ rfl)))) (execIdxN (k := 0) rfl ((hdep _ rfl 15 rfl _ rfl _ rfl).trans ezz) rfl (by omega)) ⟨⟨_, rfl, rfl⟩, hT⟩
                  | 17, _ => exact stepV rfl (wantedOf rfl (yieldedAt rfl rfl (show a.eval (.tmp 120) = .bool false from (hdep _ rfl 14 rfl _ rfl _ rfl)))) (execLd3 rfl (hdep _ rfl 16 rfl _ rfl _ rfl) (czz 0 (by omega) X hT.1)) ⟨⟨_, rfl, rfl⟩, hT⟩
                  | 18, _ => exact stepV rfl (wantedOf rfl (yieldedAt rfl rfl (show a.eval (.tmp 120) = .bool false from (hdep _ rfl 14 rfl _ rfl _ rfl)))) (execMvB rfl ((hf 7 (by decide)).trans t7)) ⟨⟨_, rfl, rfl⟩, hT⟩
                  | 19, _ => exact stepV rfl (wantedOf rfl (yieldedAt rfl rfl (show a.eval (.tmp 120) = .bool false from (hdep _ rfl 14 rfl _ rfl _ rfl)))) (execMvB rfl ((hf 1 (by decide)).trans t1)) ⟨⟨_, rfl, rfl⟩, hT⟩
                  | 20, _ => exact stepV rfl (wantedOf rfl (yieldedAt rfl rfl (show a.eval (.tmp 120) = .bool false from (hdep _ rfl 14 rfl _ rfl _ rfl)))) (By8.execSubI (p := D) (q := 1) rfl (hdep _ rfl 19 rfl _ rfl _ rfl) rfl (by omega) (by omega)) ⟨⟨_, rfl, rfl⟩, hT⟩
                  | 21, _ => exact stepV rfl (wantedOf rfl (yieldedAt rfl rfl (show a.eval (.tmp 120) = .bool false from (hdep _ rfl 14 rfl _ rfl _ rfl)))) (execIdxN (k := D - 1) rfl ((hdep _ rfl 18 rfl _ rfl _ rfl).trans ezz) (hdep _ rfl 20 rfl _ rfl _ rfl) (by omega)) ⟨⟨_, rfl, rfl⟩, hT⟩
                  | 22, _ => exact stepV rfl (wantedOf rfl (yieldedAt rfl rfl (show a.eval (.tmp 120) = .bool false from (hdep _ rfl 14 rfl _ rfl _ rfl)))) (execLd3 rfl (hdep _ rfl 21 rfl _ rfl _ rfl) (czz (D - 1) (by omega) X hT.1)) ⟨⟨_, rfl, rfl⟩, hT⟩
                  | 23, _ => exact stepV rfl (wantedOf rfl (yieldedAt rfl rfl (show a.eval (.tmp 120) = .bool false from (hdep _ rfl 14 rfl _ rfl _ rfl)))) (By8.execSubI (p := szF N D 0) (q := szF N D (D - 1)) rfl (hdep _ rfl 17 rfl _ rfl _ rfl) (hdep _ rfl 22 rfl _ rfl _ rfl) (by omega) (by omega)) ⟨⟨_, rfl, rfl⟩, hT⟩
                  | 24, _ => exact stepV rfl (wantedOf rfl (yieldedAt rfl rfl (show a.eval (.tmp 120) = .bool false from (hdep _ rfl 14 rfl _ rfl _ rfl)))) (execDec (execGtN (p := szF N D 0 - (szF N D (D - 1))) (q := 1) rfl (hdep _ rfl 23 rfl _ rfl _ rfl) rfl) (decide_eq_false (by omega))) ⟨⟨_, rfl, rfl⟩, hT⟩
                  | 25, _ => exact stepV rfl rfl (execPickF rfl (hdep _ rfl 14 rfl _ rfl _ rfl) (hdep _ rfl 24 rfl _ rfl _ rfl)) ⟨⟨_, rfl, rfl⟩, hT⟩
                  | 26, _ => exact stepV rfl rfl (execMvB rfl (hdep _ rfl 25 rfl _ rfl _ rfl)) ⟨⟨_, rfl, rfl⟩, hT⟩
                  | 27, _ => exact stepV rfl (wantedOf rfl (yieldedAt rfl rfl (show a.eval (.tmp 132) = .bool false from (hdep _ rfl 26 rfl _ rfl _ rfl)))) (execMvB rfl ((hf 15 (by decide)).trans t15)) ⟨⟨_, rfl, rfl⟩, hT⟩
                  | 28, _ => exact stepV rfl (wantedOf rfl (yieldedAt rfl rfl (show a.eval (.tmp 132) = .bool false from (hdep _ rfl 26 rfl _ rfl _ rfl)))) (execDec (execGtN (p := j) (q := 0) rfl (hdep _ rfl 27 rfl _ rfl _ rfl) rfl) (decide_eq_true (by omega))) ⟨⟨_, rfl, rfl⟩, hT⟩
                  | 29, _ => exact stepV rfl (wantedOf rfl (yieldedAt rfl rfl (show a.eval (.tmp 132) = .bool false from (hdep _ rfl 26 rfl _ rfl _ rfl)))) (execMvB rfl (hdep _ rfl 28 rfl _ rfl _ rfl)) ⟨⟨_, rfl, rfl⟩, hT⟩
                  | 30, _ => exact stepV rfl (wantedOf rfl (yieldedAt rfl rfl (show a.eval (.tmp 135) = .bool true from (hdep _ rfl 29 rfl _ rfl _ rfl)))) (execMvB rfl ((hf 16 (by decide)).trans t16)) ⟨⟨_, rfl, rfl⟩, hT⟩
                  | 31, _ => exact stepV rfl (wantedOf rfl (yieldedAt rfl rfl (show a.eval (.tmp 135) = .bool true from (hdep _ rfl 29 rfl _ rfl _ rfl)))) (execMvB rfl ((hf 7 (by decide)).trans t7)) ⟨⟨_, rfl, rfl⟩, hT⟩
                  | 32, _ => exact stepV rfl (wantedOf rfl (yieldedAt rfl rfl (show a.eval (.tmp 135) = .bool true from (hdep _ rfl 29 rfl _ rfl _ rfl)))) (execMvB rfl ((hf 15 (by decide)).trans t15)) ⟨⟨_, rfl, rfl⟩, hT⟩
                  | 33, _ => exact stepV rfl (wantedOf rfl (yieldedAt rfl rfl (show a.eval (.tmp 135) = .bool true from (hdep _ rfl 29 rfl _ rfl _ rfl)))) (By8.execSubI (p := j) (q := 1) rfl (hdep _ rfl 32 rfl _ rfl _ rfl) rfl (by omega) (by omega)) ⟨⟨_, rfl, rfl⟩, hT⟩
                  | 34, _ => exact stepV rfl (wantedOf rfl (yieldedAt rfl rfl (show a.eval (.tmp 135) = .bool true from (hdep _ rfl 29 rfl _ rfl _ rfl)))) (execIdxN (k := j - 1) rfl ((hdep _ rfl 31 rfl _ rfl _ rfl).trans ezz) (hdep _ rfl 33 rfl _ rfl _ rfl) (by omega)) ⟨⟨_, rfl, rfl⟩, hT⟩
                  | 35, _ => exact stepV rfl (wantedOf rfl (yieldedAt rfl rfl (show a.eval (.tmp 135) = .bool true from (hdep _ rfl 29 rfl _ rfl _ rfl)))) (execLd3 rfl (hdep _ rfl 34 rfl _ rfl _ rfl) (czz (j - 1) (by omega) X hT.1)) ⟨⟨_, rfl, rfl⟩, hT⟩
                  | 36, _ => exact stepV rfl (wantedOf rfl (yieldedAt rfl rfl (show a.eval (.tmp 135) = .bool true from (hdep _ rfl 29 rfl _ rfl _ rfl)))) (execDec (execGtN (p := szF N D j) (q := szF N D (j - 1)) rfl (hdep _ rfl 30 rfl _ rfl _ rfl) (hdep _ rfl 35 rfl _ rfl _ rfl)) (decide_eq_false (by omega))) ⟨⟨_, rfl, rfl⟩, hT⟩
                  | 37, _ => exact stepV rfl (wantedOf rfl (yieldedAt rfl rfl (show a.eval (.tmp 132) = .bool false from (hdep _ rfl 26 rfl _ rfl _ rfl)))) (execPickT rfl (hdep _ rfl 29 rfl _ rfl _ rfl) (hdep _ rfl 36 rfl _ rfl _ rfl)) ⟨⟨_, rfl, rfl⟩, hT⟩
                  | 38, _ => exact stepV rfl rfl (execPickF rfl (hdep _ rfl 26 rfl _ rfl _ rfl) (hdep _ rfl 37 rfl _ rfl _ rfl)) ⟨⟨_, rfl, rfl⟩, hT⟩
                  | k_ + 39, h_ => exact absurd h_ (by simp)
                intro l_ a X27 h1 h2 h3 h4 hall hT
                clear hall
                clear BB
                clear FM
                clear FP
                obtain ⟨BB, FM, FP⟩ := hT
                replace t0 := (h3 0 (by decide)).trans t0
                replace t1 := (h3 1 (by decide)).trans t1
                replace t7 := (h3 7 (by decide)).trans t7
                replace t10 := (h3 10 (by decide)).trans t10
                replace t13 := (h3 13 (by decide)).trans t13
                replace t14 := (h3 14 (by decide)).trans t14
                replace t99 := (h3 99 (by decide)).trans t99
                replace t100 := (h3 100 (by decide)).trans t100
                replace t101 := (h3 101 (by decide)).trans t101
                replace t16 := (h3 16 (by decide)).trans t16
                have t144 : a.eval (.tmp 144) = .bool false := h4 (38, 144) (by decide)
                replace A := (⟨h1, h2.trans A.2⟩ : a.tmps.size = 238 ∧ a.defers = [])
                clear h1 h2 h3 h4
                clear t15
                refine wp_cond_false t144 ?_
                refine wp_skip ?_
                clear t144
                refine wp_seq ?_
                refine wp_region_sq (σ := Unit) 238 [(0, 17)] (fun j_ s X => match j_ with | 0 => Below X24.heap.size X24 X ∧ (FmI X24.heap.size j (x) (szF N D) (ggS N D) X) ∧ (X.ownsRow X24.heap.size 23 1 p j (lL (x) j)) | _ => Below X24.heap.size X24 X ∧ (FmI X24.heap.size j (x) (szF N D) (ggS N D) X) ∧ (X.ownsRow X24.heap.size 23 1 p j (lL (x) j))) (fun s => fun i_ => match i_ with | 0 => .slice none 0 0 | _ => undef) () A.1 (by kernel_rfl) (by decide) (by decide) ⟨BB, FM, FP⟩ ?_ ?_
                · intro i_ hi_ s a X hf hv hn hS
                  match i_, hi_ with
                  | 0, _ => exact stepV rfl rfl (execAsgB rfl rfl) ⟨s, ⟨_, rfl, rfl⟩, hS, fun _ _ => rfl⟩
                  | k_ + 1, h_ => exact absurd h_ (by simp)
                rintro _ a X29 h1 h2 h3 h4 hS
                clear BB
                clear FM
                clear FP
                replace hS : Below X24.heap.size X24 X29 ∧ (FmI X24.heap.size j (x) (szF N D) (ggS N D) X29) ∧ (X29.ownsRow X24.heap.size 23 1 p j (lL (x) j)) := hS
                obtain ⟨BB, FM, FP⟩ := hS
                replace t0 := (h3 0 (by decide)).trans t0
                replace t1 := (h3 1 (by decide)).trans t1
                replace t7 := (h3 7 (by decide)).trans t7
                replace t10 := (h3 10 (by decide)).trans t10
                replace t13 := (h3 13 (by decide)).trans t13
                replace t14 := (h3 14 (by decide)).trans t14
                replace t99 := (h3 99 (by decide)).trans t99
                replace t100 := (h3 100 (by decide)).trans t100
                replace t101 := (h3 101 (by decide)).trans t101
                replace t16 := (h3 16 (by decide)).trans t16
                have t17 : a.eval (.tmp 17) = .slice none 0 0 := h4 0 _ rfl _ rfl
                replace A := (⟨h1, h2.trans A.2⟩ : a.tmps.size = 238 ∧ a.defers = [])
                clear h1 h2 h3 h4
                refine wp_seq ?_
                refine wp_seq ?_
                refine wp_region_sq (σ := Unit) 238 [(0, 145), (1, 146)] (fun j_ s X => match j_ with | 0 => Below X24.heap.size X24 X ∧ (FmI X24.heap.size j (x) (szF N D) (ggS N D) X) ∧ (X.ownsRow X24.heap.size 23 1 p j (lL (x) j)) | 1 => Below X24.heap.size X24 X ∧ (FmI X24.heap.size j (x) (szF N D) (ggS N D) X) ∧ (X.ownsRow X24.heap.size 23 1 p j (lL (x) j)) | _ => Below X24.heap.size X24 X ∧ (FmI X24.heap.size j (x) (szF N D) (ggS N D) X) ∧ (X.ownsRow X24.heap.size 23 1 p j (lL (x) j))) (fun s => fun i_ => match i_ with | 0 => .int .i64 ((szF N D j : Nat) : Int) | 1 => .int .i64 ((0 : Nat) : Int) | _ => undef) () A.1 (by kernel_rfl) (by decide) (by decide) ⟨BB, FM, FP⟩ ?_ ?_
                · intro i_ hi_ s a X hf hv hn hS
                  match i_, hi_ with
                  | 0, _ => exact stepV rfl rfl (execMvB rfl ((hf 16 (by decide)).trans t16)) ⟨s, ⟨_, rfl, rfl⟩, hS, fun _ _ => rfl⟩
                  | 1, _ => exact stepV rfl rfl (execMvB rfl rfl) ⟨s, ⟨_, rfl, rfl⟩, hS, fun _ _ => rfl⟩
                  | k_ + 2, h_ => exact absurd h_ (by simp)
                rintro _ a X30 h1 h2 h3 h4 hS
                clear BB
                clear FM
                clear FP
                replace hS : Below X24.heap.size X24 X30 ∧ (FmI X24.heap.size j (x) (szF N D) (ggS N D) X30) ∧ (X30.ownsRow X24.heap.size 23 1 p j (lL (x) j)) := hS
                obtain ⟨BB, FM, FP⟩ := hS
                replace t0 := (h3 0 (by decide)).trans t0
                replace t1 := (h3 1 (by decide)).trans t1
                replace t7 := (h3 7 (by decide)).trans t7
                replace t10 := (h3 10 (by decide)).trans t10
                replace t13 := (h3 13 (by decide)).trans t13
                replace t14 := (h3 14 (by decide)).trans t14
                replace t99 := (h3 99 (by decide)).trans t99
                replace t100 := (h3 100 (by decide)).trans t100
                replace t101 := (h3 101 (by decide)).trans t101
                replace t17 := (h3 17 (by decide)).trans t17
                have t145 : a.eval (.tmp 145) = .int .i64 ((szF N D j : Nat) : Int) := h4 0 _ rfl _ rfl
                have t146 : a.eval (.tmp 146) = .int .i64 ((0 : Nat) : Int) := h4 1 _ rfl _ rfl
                replace A := (⟨h1, h2.trans A.2⟩ : a.tmps.size = 238 ∧ a.defers = [])
                clear h1 h2 h3 h4
                clear t16
                have hBC := BB.size
                have hlt : ∀ t, t < j → ∀ b, (x t).ownBlock = some b → b < X30.heap.size := fun t ht b q => ((FM.rows t ht).lt b q).2
                have FL : X30.ownsRow X30.heap.size 3 1 (.slice none 0 0) 0 (intsL 0 (ggS N D j)) := World.ownsRow_nil _ _ _ _
                have FC : X30.heap.size ≤ X30.heap.size := Nat.le_refl _
                refine wp_block ?_
                refine wp_loop (fun a W => ∃ (i : Nat) (l : Value), i ≤ szF N D j ∧ (a.tmps.size = 238 ∧ a.defers = []) ∧ a.eval (.tmp 0) = .int .i64 ((N : Nat) : Int) ∧ a.eval (.tmp 1) = .int .i64 ((D : Nat) : Int) ∧ a.eval (.tmp 7) = z32 ∧ a.eval (.tmp 10) = .slice (some ⟨g72, 0, none⟩) N N ∧ a.eval (.tmp 13) = p ∧ a.eval (.tmp 14) = .int .i64 ((sumN (szF N D) j + i : Nat) : Int) ∧ a.eval (.tmp 99) = z32 ∧ a.eval (.tmp 100) = .int .i64 ((D : Nat) : Int) ∧ a.eval (.tmp 101) = .int .i64 ((j : Nat) : Int) ∧ a.eval (.tmp 17) = l ∧ a.eval (.tmp 145) = .int .i64 ((szF N D j : Nat) : Int) ∧ a.eval (.tmp 146) = .int .i64 ((i : Nat) : Int) ∧ Below X24.heap.size X24 W ∧ (FmI X24.heap.size j (x) (szF N D) (ggS N D) W) ∧ (W.ownsRow X24.heap.size 23 1 p j (lL (x) j)) ∧ (W.ownsRow X30.heap.size 3 1 l i (intsL i (ggS N D j))) ∧ (X30.heap.size ≤ W.heap.size)) (fun a _ => szF N D j - (intOf (a.eval (.tmp 146))).toNat) ⟨0, _, Nat.zero_le _, A, t0, t1, t7, t10, t13, t14, t99, t100, t101, t17, t145, t146, BB, FM, FP, FL, FC⟩ ?_
                clear A t0 t1 t7 t10 t13 t14 t99 t100 t101 t17 t145 t146 BB FM FP FL FC a
                rintro a XL31 ⟨i, l, hi, A, t0, t1, t7, t10, t13, t14, t99, t100, t101, t17, t145, t146, BB, FM, FP, FL, FC⟩
                have esi := t146
                refine wp_seq ?_
                refine wp_region_sq (σ := Unit) 238 [(0, 147)] (fun j_ s X => match j_ with | 0 => Below X24.heap.size X24 X ∧ (FmI X24.heap.size j (x) (szF N D) (ggS N D) X) ∧ (X.ownsRow X24.heap.size 23 1 p j (lL (x) j)) ∧ (X.ownsRow X30.heap.size 3 1 l i (intsL i (ggS N D j))) ∧ (X30.heap.size ≤ X.heap.size) | _ => Below X24.heap.size X24 X ∧ (FmI X24.heap.size j (x) (szF N D) (ggS N D) X) ∧ (X.ownsRow X24.heap.size 23 1 p j (lL (x) j)) ∧ (X.ownsRow X30.heap.size 3 1 l i (intsL i (ggS N D j))) ∧ (X30.heap.size ≤ X.heap.size)) (fun s => fun i_ => match i_ with | 0 => .bool (decide (i < szF N D j)) | _ => undef) () A.1 (by kernel_rfl) (by decide) (by decide) ⟨BB, FM, FP, FL, FC⟩ ?_ ?_
                · intro i_ hi_ s a X hf hv hn hS
                  match i_, hi_ with
                  | 0, _ => exact stepV rfl rfl (execLtW (p := i) (q := szF N D j) rfl ((hf 146 (by decide)).trans t146) ((hf 145 (by decide)).trans t145)) ⟨s, ⟨_, rfl, rfl⟩, hS, fun _ _ => rfl⟩
                  | k_ + 1, h_ => exact absurd h_ (by simp)
                rintro _ a X31 h1 h2 h3 h4 hS
                clear BB
                clear FM
                clear FP
                clear FL
                clear FC
                replace hS : Below X24.heap.size X24 X31 ∧ (FmI X24.heap.size j (x) (szF N D) (ggS N D) X31) ∧ (X31.ownsRow X24.heap.size 23 1 p j (lL (x) j)) ∧ (X31.ownsRow X30.heap.size 3 1 l i (intsL i (ggS N D j))) ∧ (X30.heap.size ≤ X31.heap.size) := hS
                obtain ⟨BB, FM, FP, FL, FC⟩ := hS
                replace t0 := (h3 0 (by decide)).trans t0
                replace t1 := (h3 1 (by decide)).trans t1
                replace t7 := (h3 7 (by decide)).trans t7
                replace t10 := (h3 10 (by decide)).trans t10
                replace t13 := (h3 13 (by decide)).trans t13
                replace t14 := (h3 14 (by decide)).trans t14
                replace t99 := (h3 99 (by decide)).trans t99
                replace t100 := (h3 100 (by decide)).trans t100
                replace t101 := (h3 101 (by decide)).trans t101
                replace t17 := (h3 17 (by decide)).trans t17
                replace t145 := (h3 145 (by decide)).trans t145
                replace t146 := (h3 146 (by decide)).trans t146
                have t147 : a.eval (.tmp 147) = .bool (decide (i < szF N D j)) := h4 0 _ rfl _ rfl
                replace A := (⟨h1, h2.trans A.2⟩ : a.tmps.size = 238 ∧ a.defers = [])
                clear h1 h2 h3 h4
                refine wp_seq ?_
                by_cases lti : i < szF N D j
                · rw [decide_eq_true lti] at t147
                  refine wp_cond_true t147 ?_
                  refine wp_skip ?_
                  clear t147
                  refine wp_seq ?_
                  refine wp_block ?_
                  refine wp_seq ?_
                  refine wp_region_sq (σ := Nat × Value) 238 [(0, 148), (1, 149), (2, 150), (3, 151), (4, 17)] (fun j_ s X => match j_ with | 0 => Below X24.heap.size X24 X ∧ (FmI X24.heap.size j (x) (szF N D) (ggS N D) X) ∧ (X.ownsRow X24.heap.size 23 1 p j (lL (x) j)) ∧ (X.ownsRow X30.heap.size 3 1 l i (intsL i (ggS N D j))) ∧ (X30.heap.size ≤ X.heap.size) | 1 => Below X24.heap.size X24 X ∧ (FmI X24.heap.size j (x) (szF N D) (ggS N D) X) ∧ (X.ownsRow X24.heap.size 23 1 p j (lL (x) j)) ∧ (X.ownsRow X30.heap.size 3 1 l i (intsL i (ggS N D j))) ∧ (X30.heap.size ≤ X.heap.size) | 2 => Below X24.heap.size X24 X ∧ (FmI X24.heap.size j (x) (szF N D) (ggS N D) X) ∧ (X.ownsRow X24.heap.size 23 1 p j (lL (x) j)) ∧ (X.ownsRow X30.heap.size 3 1 l i (intsL i (ggS N D j))) ∧ (X30.heap.size ≤ X.heap.size) | 3 => Below X24.heap.size X24 X ∧ (FmI X24.heap.size j (x) (szF N D) (ggS N D) X) ∧ (X.ownsRow X24.heap.size 23 1 p j (lL (x) j)) ∧ (X.ownsRow X30.heap.size 3 1 l i (intsL i (ggS N D j))) ∧ (X30.heap.size ≤ X.heap.size) ∧ (X.heap[s.1]? = some (.cells #[.int .i64 (ggS N D j i)] 3)) | 4 => Below X24.heap.size X24 X ∧ (FmI X24.heap.size j (x) (szF N D) (ggS N D) X) ∧ (X.ownsRow X24.heap.size 23 1 p j (lL (x) j)) ∧ (X30.heap.size ≤ X.heap.size) ∧ (X.ownsRow X30.heap.size 3 1 s.2 (i + 1) (intsL (i + 1) (ggS N D j))) | _ => Below X24.heap.size X24 X ∧ (FmI X24.heap.size j (x) (szF N D) (ggS N D) X) ∧ (X.ownsRow X24.heap.size 23 1 p j (lL (x) j)) ∧ (X30.heap.size ≤ X.heap.size) ∧ (X.ownsRow X30.heap.size 3 1 s.2 (i + 1) (intsL (i + 1) (ggS N D j)))) (fun s => fun i_ => match i_ with | 0 => l | 1 => .int .i64 ((sumN (szF N D) j + i : Nat) : Int) | 2 => .slice (some ⟨s.1, 0, none⟩) 1 1 | 3 => s.2 | 4 => s.2 | _ => undef) (0, undef) A.1 (by kernel_rfl) (by decide) (by decide) ⟨BB, FM, FP, FL, FC⟩ ?_ ?_
                  · intro i_ hi_ s a X hf hv hn hS
                    match i_, hi_ with
                    | 0, _ => exact stepV rfl rfl (execMvB rfl ((hn 4 (by decide) _ rfl _ rfl).trans t17)) ⟨s, ⟨_, rfl, rfl⟩, hS, fun _ _ => rfl⟩
                    | 1, _ => exact stepV rfl rfl (execMvB rfl ((hf 14 (by decide)).trans t14)) ⟨s, ⟨_, rfl, rfl⟩, hS, fun _ _ => rfl⟩
                    | 2, _ =>
                      refine stepV rfl rfl (execBsI (z := ggS N D j i) rfl (hv 1 (by decide) _ rfl _ rfl)) ⟨(X.heap.size, s.2), ⟨_, rfl, rfl⟩, ⟨(hS.1).trans (((belNew X _)).mono (hS.1).size), (hS.2.1.on (belNew X _)), (ownD_below hS.2.2.1 (belNew X _)), (ownD_below hS.2.2.2.1 (belNew X _)), (Nat.le_trans hS.2.2.2.2 ((belNew X _)).size), heapNew X _⟩, fun i hi => ?_⟩
                      match i, hi with
                      | 0, _ => rfl
                      | 1, _ => rfl
                      | n_ + 2, h_ => omega
                    | 3, _ =>
                      refine stepAppI (f := ggS N D j) rfl rfl rfl (hv 0 (by decide) _ rfl _ rfl) (hv 2 (by decide) _ rfl _ rfl) hS.2.2.2.1 hS.2.2.2.2.2 (by omega) hS.2.2.2.2.1 fun v' W' own' gr => ⟨(s.1, v'), ⟨_, rfl, rfl⟩, ⟨(hS.1).grown gr (hS.1).size (fun k hk => Nat.le_trans hBC (hS.2.2.2.1.lt k hk).1), hS.2.1.over hlt hS.2.2.2.1 gr, own_overT hS.2.2.1 hS.2.2.2.1 gr (by decide), Nat.le_trans hS.2.2.2.2.1 gr.size, own'⟩, fun i hi => ?_⟩
                      match i, hi with
                      | 0, _ => rfl
                      | 1, _ => rfl
                      | 2, _ => rfl
                      | n_ + 3, h_ => omega
                    | 4, _ => exact stepV rfl rfl (execAsgB rfl (hv 3 (by decide) _ rfl _ rfl)) ⟨s, ⟨_, rfl, rfl⟩, hS, fun _ _ => rfl⟩
                    | k_ + 5, h_ => exact absurd h_ (by simp)
                  rintro ⟨g150, v151⟩ a X32 h1 h2 h3 h4 hS
                  clear BB
                  clear FM
                  clear FP
                  clear FL
                  clear FC
                  replace hS : Below X24.heap.size X24 X32 ∧ (FmI X24.heap.size j (x) (szF N D) (ggS N D) X32) ∧ (X32.ownsRow X24.heap.size 23 1 p j (lL (x) j)) ∧ (X30.heap.size ≤ X32.heap.size) ∧ (X32.ownsRow X30.heap.size 3 1 v151 (i + 1) (intsL (i + 1) (ggS N D j))) := hS
                  obtain ⟨BB, FM, FP, FC, FL2⟩ := hS
                  replace t0 := (h3 0 (by decide)).trans t0
                  replace t1 := (h3 1 (by decide)).trans t1
                  replace t7 := (h3 7 (by decide)).trans t7
                  replace t10 := (h3 10 (by decide)).trans t10
                  replace t13 := (h3 13 (by decide)).trans t13
                  replace t14 := (h3 14 (by decide)).trans t14
                  replace t99 := (h3 99 (by decide)).trans t99
                  replace t100 := (h3 100 (by decide)).trans t100
                  replace t101 := (h3 101 (by decide)).trans t101
                  replace t17 : a.eval (.tmp 17) = v151 := h4 4 _ rfl _ rfl
                  replace t145 := (h3 145 (by decide)).trans t145
                  replace t146 := (h3 146 (by decide)).trans t146
                  replace A := (⟨h1, h2.trans A.2⟩ : a.tmps.size = 238 ∧ a.defers = [])
                  clear h1 h2 h3 h4
                  refine wp_region_sq (σ := Unit) 238 [(0, 152), (1, 153), (2, 14)] (fun j_ s X => match j_ with | 0 => Below X24.heap.size X24 X ∧ (FmI X24.heap.size j (x) (szF N D) (ggS N D) X) ∧ (X.ownsRow X24.heap.size 23 1 p j (lL (x) j)) ∧ (X30.heap.size ≤ X.heap.size) ∧ (X.ownsRow X30.heap.size 3 1 v151 (i + 1) (intsL (i + 1) (ggS N D j))) | 1 => Below X24.heap.size X24 X ∧ (FmI X24.heap.size j (x) (szF N D) (ggS N D) X) ∧ (X.ownsRow X24.heap.size 23 1 p j (lL (x) j)) ∧ (X30.heap.size ≤ X.heap.size) ∧ (X.ownsRow X30.heap.size 3 1 v151 (i + 1) (intsL (i + 1) (ggS N D j))) | 2 => Below X24.heap.size X24 X ∧ (FmI X24.heap.size j (x) (szF N D) (ggS N D) X) ∧ (X.ownsRow X24.heap.size 23 1 p j (lL (x) j)) ∧ (X30.heap.size ≤ X.heap.size) ∧ (X.ownsRow X30.heap.size 3 1 v151 (i + 1) (intsL (i + 1) (ggS N D j))) | _ => Below X24.heap.size X24 X ∧ (FmI X24.heap.size j (x) (szF N D) (ggS N D) X) ∧ (X.ownsRow X24.heap.size 23 1 p j (lL (x) j)) ∧ (X30.heap.size ≤ X.heap.size) ∧ (X.ownsRow X30.heap.size 3 1 v151 (i + 1) (intsL (i + 1) (ggS N D j)))) (fun s => fun i_ => match i_ with | 0 => .int .i64 ((sumN (szF N D) j + i : Nat) : Int) | 1 => .int .i64 ((sumN (szF N D) j + i + 1 : Nat) : Int) | 2 => .int .i64 ((sumN (szF N D) j + i + 1 : Nat) : Int) | _ => undef) () A.1 (by kernel_rfl) (by decide) (by decide) ⟨BB, FM, FP, FC, FL2⟩ ?_ ?_
                  · intro i_ hi_ s a X hf hv hn hS
                    match i_, hi_ with
                    | 0, _ => exact stepV rfl rfl (execMvB rfl ((hn 2 (by decide) _ rfl _ rfl).trans t14)) ⟨s, ⟨_, rfl, rfl⟩, hS, fun _ _ => rfl⟩
                    | 1, _ => exact stepV rfl rfl (execAd8 (p := sumN (szF N D) j + i) (q := 1) rfl (hv 0 (by decide) _ rfl _ rfl) rfl (by omega)) ⟨s, ⟨_, rfl, rfl⟩, hS, fun _ _ => rfl⟩
                    | 2, _ => exact stepV rfl rfl (execAsgB rfl (hv 1 (by decide) _ rfl _ rfl)) ⟨s, ⟨_, rfl, rfl⟩, hS, fun _ _ => rfl⟩
                    | k_ + 3, h_ => exact absurd h_ (by simp)
                  rintro _ a X33 h1 h2 h3 h4 hS
                  clear BB
                  clear FM
                  clear FP
                  clear FC
                  clear FL2
                  replace hS : Below X24.heap.size X24 X33 ∧ (FmI X24.heap.size j (x) (szF N D) (ggS N D) X33) ∧ (X33.ownsRow X24.heap.size 23 1 p j (lL (x) j)) ∧ (X30.heap.size ≤ X33.heap.size) ∧ (X33.ownsRow X30.heap.size 3 1 v151 (i + 1) (intsL (i + 1) (ggS N D j))) := hS
                  obtain ⟨BB, FM, FP, FC, FL2⟩ := hS
                  replace t0 := (h3 0 (by decide)).trans t0
                  replace t1 := (h3 1 (by decide)).trans t1
                  replace t7 := (h3 7 (by decide)).trans t7
                  replace t10 := (h3 10 (by decide)).trans t10
                  replace t13 := (h3 13 (by decide)).trans t13
                  replace t14 : a.eval (.tmp 14) = .int .i64 ((sumN (szF N D) j + i + 1 : Nat) : Int) := h4 2 _ rfl _ rfl
                  replace t99 := (h3 99 (by decide)).trans t99
                  replace t100 := (h3 100 (by decide)).trans t100
                  replace t101 := (h3 101 (by decide)).trans t101
                  replace t17 := (h3 17 (by decide)).trans t17
                  replace t145 := (h3 145 (by decide)).trans t145
                  replace t146 := (h3 146 (by decide)).trans t146
                  replace A := (⟨h1, h2.trans A.2⟩ : a.tmps.size = 238 ∧ a.defers = [])
                  clear h1 h2 h3 h4
                  rw [Nat.add_assoc] at t14
                  refine wp_region_sq (σ := Unit) 238 [(0, 154), (1, 146)] (fun j_ s X => match j_ with | 0 => Below X24.heap.size X24 X ∧ (FmI X24.heap.size j (x) (szF N D) (ggS N D) X) ∧ (X.ownsRow X24.heap.size 23 1 p j (lL (x) j)) ∧ (X30.heap.size ≤ X.heap.size) ∧ (X.ownsRow X30.heap.size 3 1 v151 (i + 1) (intsL (i + 1) (ggS N D j))) | 1 => Below X24.heap.size X24 X ∧ (FmI X24.heap.size j (x) (szF N D) (ggS N D) X) ∧ (X.ownsRow X24.heap.size 23 1 p j (lL (x) j)) ∧ (X30.heap.size ≤ X.heap.size) ∧ (X.ownsRow X30.heap.size 3 1 v151 (i + 1) (intsL (i + 1) (ggS N D j))) | _ => Below X24.heap.size X24 X ∧ (FmI X24.heap.size j (x) (szF N D) (ggS N D) X) ∧ (X.ownsRow X24.heap.size 23 1 p j (lL (x) j)) ∧ (X30.heap.size ≤ X.heap.size) ∧ (X.ownsRow X30.heap.size 3 1 v151 (i + 1) (intsL (i + 1) (ggS N D j)))) (fun s => fun i_ => match i_ with | 0 => .int .i64 ((i + 1 : Nat) : Int) | 1 => .int .i64 ((i + 1 : Nat) : Int) | _ => undef) () A.1 (by kernel_rfl) (by decide) (by decide) ⟨BB, FM, FP, FC, FL2⟩ ?_ ?_
                  · intro i_ hi_ s a X hf hv hn hS
                    match i_, hi_ with
                    | 0, _ => exact stepV rfl rfl (execAd8 (p := i) (q := 1) rfl ((hn 1 (by decide) _ rfl _ rfl).trans t146) rfl (by omega)) ⟨s, ⟨_, rfl, rfl⟩, hS, fun _ _ => rfl⟩
                    | 1, _ => exact stepV rfl rfl (execMvB rfl (hv 0 (by decide) _ rfl _ rfl)) ⟨s, ⟨_, rfl, rfl⟩, hS, fun _ _ => rfl⟩
                    | k_ + 2, h_ => exact absurd h_ (by simp)
                  rintro _ a X34 h1 h2 h3 h4 hS
                  clear BB
                  clear FM
                  clear FP
                  clear FC
                  clear FL2
                  replace hS : Below X24.heap.size X24 X34 ∧ (FmI X24.heap.size j (x) (szF N D) (ggS N D) X34) ∧ (X34.ownsRow X24.heap.size 23 1 p j (lL (x) j)) ∧ (X30.heap.size ≤ X34.heap.size) ∧ (X34.ownsRow X30.heap.size 3 1 v151 (i + 1) (intsL (i + 1) (ggS N D j))) := hS
                  obtain ⟨BB, FM, FP, FC, FL2⟩ := hS
                  replace t0 := (h3 0 (by decide)).trans t0
                  replace t1 := (h3 1 (by decide)).trans t1
                  replace t7 := (h3 7 (by decide)).trans t7
                  replace t10 := (h3 10 (by decide)).trans t10
                  replace t13 := (h3 13 (by decide)).trans t13
                  replace t14 := (h3 14 (by decide)).trans t14
                  replace t99 := (h3 99 (by decide)).trans t99
                  replace t100 := (h3 100 (by decide)).trans t100
                  replace t101 := (h3 101 (by decide)).trans t101
                  replace t17 := (h3 17 (by decide)).trans t17
                  replace t145 := (h3 145 (by decide)).trans t145
                  replace t146 : a.eval (.tmp 146) = .int .i64 ((i + 1 : Nat) : Int) := h4 1 _ rfl _ rfl
                  replace A := (⟨h1, h2.trans A.2⟩ : a.tmps.size = 238 ∧ a.defers = [])
                  clear h1 h2 h3 h4
                  exact ⟨⟨i + 1, _, lti, A, t0, t1, t7, t10, t13, t14, t99, t100, t101, t17, t145, t146, BB, FM, FP, FL2, FC⟩, by show szF N D j - (intOf (a.eval (.tmp 146))).toNat < szF N D j - (intOf (Act.eval _ (.tmp 146))).toNat; rw [t146, esi]; show szF N D j - (i + 1) < szF N D j - i; omega⟩
                · rw [decide_eq_false lti] at t147
                  refine wp_cond_false t147 ?_
                  refine wp_exit ?_
                  first | with_reducible refine exit_in ?_ | with_reducible refine exit_then (exit_in ?_) | with_reducible refine exit_then (exit_then (exit_in ?_)) | refine exit_in ?_ | refine exit_then (exit_in ?_) | refine exit_then (exit_then (exit_in ?_))
                  clear t147 esi
                  have his : i = szF N D j := by omega
                  rw [his] at FL t14
                  clear t145 t146
                  have FM2 := FmI.add FM hlt FL hBC rfl (fun _ _ => rfl)
                  have hlsh := shp3 FL
                  clear FM FL FC
                  refine wp_region_sq (σ := Nat × Value) 238 [(0, 155), (1, 156), (2, 157), (3, 158), (4, 13)] (fun j_ s X => match j_ with | 0 => Below X24.heap.size X24 X ∧ (FmI X24.heap.size (j + 1) (updX x j l) (szF N D) (ggS N D) X) ∧ (X.ownsRow X24.heap.size 23 1 p j (lL (x) j)) | 1 => Below X24.heap.size X24 X ∧ (FmI X24.heap.size (j + 1) (updX x j l) (szF N D) (ggS N D) X) ∧ (X.ownsRow X24.heap.size 23 1 p j (lL (x) j)) | 2 => Below X24.heap.size X24 X ∧ (FmI X24.heap.size (j + 1) (updX x j l) (szF N D) (ggS N D) X) ∧ (X.ownsRow X24.heap.size 23 1 p j (lL (x) j)) | 3 => Below X24.heap.size X24 X ∧ (FmI X24.heap.size (j + 1) (updX x j l) (szF N D) (ggS N D) X) ∧ (X.ownsRow X24.heap.size 23 1 p j (lL (x) j)) ∧ (X.heap[s.1]? = some (.cells #[l] 23)) | 4 => Below X24.heap.size X24 X ∧ (FmI X24.heap.size (j + 1) (updX x j l) (szF N D) (ggS N D) X) ∧ (X.ownsRow X24.heap.size 23 1 s.2 (j + 1) (lL (updX x j l) (j + 1))) | _ => Below X24.heap.size X24 X ∧ (FmI X24.heap.size (j + 1) (updX x j l) (szF N D) (ggS N D) X) ∧ (X.ownsRow X24.heap.size 23 1 s.2 (j + 1) (lL (updX x j l) (j + 1)))) (fun s => fun i_ => match i_ with | 0 => p | 1 => l | 2 => .slice (some ⟨s.1, 0, none⟩) 1 1 | 3 => s.2 | 4 => s.2 | _ => undef) (0, undef) A.1 (by kernel_rfl) (by decide) (by decide) ⟨BB, FM2, FP⟩ ?_ ?_
                  · intro i_ hi_ s a X hf hv hn hS
                    match i_, hi_ with
                    | 0, _ => exact stepV rfl rfl (execMvB rfl ((hn 4 (by decide) _ rfl _ rfl).trans t13)) ⟨s, ⟨_, rfl, rfl⟩, hS, fun _ _ => rfl⟩
                    | 1, _ => exact stepV rfl rfl (execMvB rfl ((hf 17 (by decide)).trans t17)) ⟨s, ⟨_, rfl, rfl⟩, hS, fun _ _ => rfl⟩
                    | 2, _ =>
                      refine stepV rfl rfl (execBsLI rfl (hv 1 (by decide) _ rfl _ rfl) hlsh) ⟨(X.heap.size, s.2), ⟨_, rfl, rfl⟩, ⟨(hS.1).trans (((belNew X _)).mono (hS.1).size), (hS.2.1.on (belNew X _)), (ownD_below hS.2.2 (belNew X _)), heapNew X _⟩, fun i hi => ?_⟩
                      match i, hi with
                      | 0, _ => rfl
                      | 1, _ => rfl
                      | n_ + 2, h_ => omega
                    | 3, _ =>
                      refine stepAppLI (y := x) (z := updX x j l) rfl rfl rfl (hv 0 (by decide) _ rfl _ rfl) (hv 2 (by decide) _ rfl _ rfl) hS.2.2.1 hS.2.2.2 rfl (fun t ht => by rw [show t = 0 by omega, Nat.add_zero, updX_at]; rfl) (fun t ht => by rw [show t = 0 by omega, Nat.add_zero, updX_at]; exact one_shp hlsh) (fun t ht => (updX_lt _ _ ht).symm) (by omega) (hS.1).size fun v' W' own' gr => ⟨(s.1, v'), ⟨_, rfl, rfl⟩, ⟨(hS.1).grown gr (hS.1).size (fun k hk => (hS.2.2.1.lt k hk).1), (hS.2.1.overT hS.2.2.1 (by decide) gr), own'⟩, fun i hi => ?_⟩
                      match i, hi with
                      | 0, _ => rfl
                      | 1, _ => rfl
                      | 2, _ => rfl
                      | n_ + 3, h_ => omega
                    | 4, _ => exact stepV rfl rfl (execAsgB rfl (hv 3 (by decide) _ rfl _ rfl)) ⟨s, ⟨_, rfl, rfl⟩, hS, fun _ _ => rfl⟩
                    | k_ + 5, h_ => exact absurd h_ (by simp)
                  rintro ⟨g157, v158⟩ a X35 h1 h2 h3 h4 hS
                  clear BB
                  clear FM2
                  clear FP
                  replace hS : Below X24.heap.size X24 X35 ∧ (FmI X24.heap.size (j + 1) (updX x j l) (szF N D) (ggS N D) X35) ∧ (X35.ownsRow X24.heap.size 23 1 v158 (j + 1) (lL (updX x j l) (j + 1))) := hS
                  obtain ⟨BB, FM2, FP2⟩ := hS
                  replace t0 := (h3 0 (by decide)).trans t0
                  replace t1 := (h3 1 (by decide)).trans t1
                  replace t7 := (h3 7 (by decide)).trans t7
                  replace t10 := (h3 10 (by decide)).trans t10
                  replace t13 : a.eval (.tmp 13) = v158 := h4 4 _ rfl _ rfl
                  replace t14 := (h3 14 (by decide)).trans t14
                  replace t99 := (h3 99 (by decide)).trans t99
                  replace t100 := (h3 100 (by decide)).trans t100
                  replace t101 := (h3 101 (by decide)).trans t101
                  replace A := (⟨h1, h2.trans A.2⟩ : a.tmps.size = 238 ∧ a.defers = [])
                  clear h1 h2 h3 h4
                  clear t17
                  refine wp_region_sq (σ := Unit) 238 [(0, 159), (1, 101)] (fun j_ s X => match j_ with | 0 => Below X24.heap.size X24 X ∧ (FmI X24.heap.size (j + 1) (updX x j l) (szF N D) (ggS N D) X) ∧ (X.ownsRow X24.heap.size 23 1 v158 (j + 1) (lL (updX x j l) (j + 1))) | 1 => Below X24.heap.size X24 X ∧ (FmI X24.heap.size (j + 1) (updX x j l) (szF N D) (ggS N D) X) ∧ (X.ownsRow X24.heap.size 23 1 v158 (j + 1) (lL (updX x j l) (j + 1))) | _ => Below X24.heap.size X24 X ∧ (FmI X24.heap.size (j + 1) (updX x j l) (szF N D) (ggS N D) X) ∧ (X.ownsRow X24.heap.size 23 1 v158 (j + 1) (lL (updX x j l) (j + 1)))) (fun s => fun i_ => match i_ with | 0 => .int .i64 ((j + 1 : Nat) : Int) | 1 => .int .i64 ((j + 1 : Nat) : Int) | _ => undef) () A.1 (by kernel_rfl) (by decide) (by decide) ⟨BB, FM2, FP2⟩ ?_ ?_
                  · intro i_ hi_ s a X hf hv hn hS
                    match i_, hi_ with
                    | 0, _ => exact stepV rfl rfl (execAd8 (p := j) (q := 1) rfl ((hn 1 (by decide) _ rfl _ rfl).trans t101) rfl (by omega)) ⟨s, ⟨_, rfl, rfl⟩, hS, fun _ _ => rfl⟩
                    | 1, _ => exact stepV rfl rfl (execMvB rfl (hv 0 (by decide) _ rfl _ rfl)) ⟨s, ⟨_, rfl, rfl⟩, hS, fun _ _ => rfl⟩
                    | k_ + 2, h_ => exact absurd h_ (by simp)
                  rintro _ a X36 h1 h2 h3 h4 hS
                  clear BB
                  clear FM2
                  clear FP2
                  replace hS : Below X24.heap.size X24 X36 ∧ (FmI X24.heap.size (j + 1) (updX x j l) (szF N D) (ggS N D) X36) ∧ (X36.ownsRow X24.heap.size 23 1 v158 (j + 1) (lL (updX x j l) (j + 1))) := hS
                  obtain ⟨BB, FM2, FP2⟩ := hS
                  replace t0 := (h3 0 (by decide)).trans t0
                  replace t1 := (h3 1 (by decide)).trans t1
                  replace t7 := (h3 7 (by decide)).trans t7
                  replace t10 := (h3 10 (by decide)).trans t10
                  replace t13 := (h3 13 (by decide)).trans t13
                  replace t14 := (h3 14 (by decide)).trans t14
                  replace t99 := (h3 99 (by decide)).trans t99
                  replace t100 := (h3 100 (by decide)).trans t100
                  replace t101 : a.eval (.tmp 101) = .int .i64 ((j + 1 : Nat) : Int) := h4 1 _ rfl _ rfl
                  replace A := (⟨h1, h2.trans A.2⟩ : a.tmps.size = 238 ∧ a.defers = [])
                  clear h1 h2 h3 h4
                  exact ⟨⟨j + 1, _, updX x j l, ltj, A, t0, t1, t7, t10, t13, t14, t99, t100, t101, BB, FM2, FP2⟩, by show D - (intOf (a.eval (.tmp 101))).toNat < D - (intOf (Act.eval _ (.tmp 101))).toNat; rw [t101, esj]; show D - (j + 1) < D - j; omega⟩
              · refine wp_region_detA 238 [(0, 106), (1, 107), (2, 108), (3, 109), (4, 110), (5, 111), (6, 112), (7, 113), (8, 114), (9, 115), (10, 116), (11, 117), (12, 118), (13, 119), (14, 120), (15, 121), (16, 122), (17, 123), (18, 124), (19, 125), (20, 126), (21, 127), (22, 128), (23, 129), (24, 130), (25, 131), (26, 132), (27, 133), (28, 134), (29, 135), (30, 136), (31, 137), (32, 138), (33, 139), (34, 140), (35, 141), (36, 142), (37, 143), (38, 144)] (fun i_ => match i_ with | 0 => .int .i64 ((szF N D j : Nat) : Int) | 1 => z32 | 2 => .int .i64 ((D : Nat) : Int) | 3 => .int .i64 ((D - 1 : Nat) : Int) | 4 => .pointer (some ⟨zzb, zzo + (D - 1), none⟩) | 5 => .int .i64 ((szF N D (D - 1) : Nat) : Int) | 6 => .bool false | 7 => .bool false | 8 => .int .i64 ((szF N D j : Nat) : Int) | 9 => z32 | 10 => .pointer (some ⟨zzb, zzo + 0, none⟩) | 11 => .int .i64 ((szF N D 0 : Nat) : Int) | 12 => .bool false | 13 => .bool false | 14 => .bool false | 15 => z32 | 16 => .pointer (some ⟨zzb, zzo + 0, none⟩) | 17 => .int .i64 ((szF N D 0 : Nat) : Int) | 18 => z32 | 19 => .int .i64 ((D : Nat) : Int) | 20 => .int .i64 ((D - 1 : Nat) : Int) | 21 => .pointer (some ⟨zzb, zzo + (D - 1), none⟩) | 22 => .int .i64 ((szF N D (D - 1) : Nat) : Int) | 23 => .int .i64 ((szF N D 0 - (szF N D (D - 1)) : Nat) : Int) | 24 => .bool false | 25 => .bool false | 26 => .bool false | 27 => .int .i64 ((j : Nat) : Int) | 28 => .bool false | 29 => .bool false | 30 => undef | 31 => undef | 32 => undef | 33 => undef | 34 => undef | 35 => undef | 36 => undef | 37 => .bool false | 38 => .bool false | _ => undef) (fun _ X => Below X24.heap.size X24 X ∧ (FmI X24.heap.size j (x) (szF N D) (ggS N D) X) ∧ (X.ownsRow X24.heap.size 23 1 p j (lL (x) j))) (by kernel_rfl) (by kernel_rfl) A.1 (by kernel_rfl) (by decide) (by decide) ⟨BB.drew, (FM.on (Below.refl _ _).drew), (ownD_below FP (Below.refl _ _).drew)⟩ ?_ ?_
                · intro i_ hi_ l_ a X hl_ hf hdep hl2 hcl hno hT
                  match i_, hi_ with
                  | 0, _ => exact stepV rfl rfl (execMvB rfl ((hf 16 (by decide)).trans t16)) ⟨⟨_, rfl, rfl⟩, hT⟩
                  | 1, _ => exact stepV rfl rfl (execMvB rfl ((hf 7 (by decide)).trans t7)) ⟨⟨_, rfl, rfl⟩, hT⟩
                  | 2, _ => exact stepV rfl rfl (execMvB rfl ((hf 1 (by decide)).trans t1)) ⟨⟨_, rfl, rfl⟩, hT⟩
                  | 3, _ => exact stepV rfl rfl (By8.execSubI (p := D) (q := 1) rfl (hdep _ rfl 2 rfl _ rfl _ rfl) rfl (by omega) (by omega)) ⟨⟨_, rfl, rfl⟩, hT⟩
                  | 4, _ => exact stepV rfl rfl (execIdxN (k := D - 1) rfl ((hdep _ rfl 1 rfl _ rfl _ rfl).trans ezz) (hdep _ rfl 3 rfl _ rfl _ rfl) (by omega)) ⟨⟨_, rfl, rfl⟩, hT⟩
                  | 5, _ => exact stepV rfl rfl (execLd3 rfl (hdep _ rfl 4 rfl _ rfl _ rfl) (czz (D - 1) (by omega) X hT.1)) ⟨⟨_, rfl, rfl⟩, hT⟩
                  | 6, _ => exact stepV rfl rfl (execDec (execLtW (p := szF N D j) (q := szF N D (D - 1)) rfl (hdep _ rfl 0 rfl _ rfl _ rfl) (hdep _ rfl 5 rfl _ rfl _ rfl)) (decide_eq_false (by omega))) ⟨⟨_, rfl, rfl⟩, hT⟩
                  | 7, _ => exact stepV rfl rfl (execMvB rfl (hdep _ rfl 6 rfl _ rfl _ rfl)) ⟨⟨_, rfl, rfl⟩, hT⟩
                  | 8, _ => exact stepV rfl (wantedOf rfl (yieldedAt rfl rfl (show a.eval (.tmp 113) = .bool false from (hdep _ rfl 7 rfl _ rfl _ rfl)))) (execMvB rfl ((hf 16 (by decide)).trans t16)) ⟨⟨_, rfl, rfl⟩, hT⟩
                  | 9, _ => exact stepV rfl (wantedOf rfl (yieldedAt rfl rfl (show a.eval (.tmp 113) = .bool false from (hdep _ rfl 7 rfl _ rfl _ rfl)))) (execMvB rfl ((hf 7 (by decide)).trans t7)) ⟨⟨_, rfl, rfl⟩, hT⟩
                  | 10, _ => exact stepV rfl (wantedOf rfl (yieldedAt rfl rfl (show a.eval (.tmp 113) = .bool false from (hdep _ rfl 7 rfl _ rfl _ rfl)))) (execIdxN (k := 0) rfl ((hdep _ rfl 9 rfl _ rfl _ rfl).trans ezz) rfl (by omega)) ⟨⟨_, rfl, rfl⟩, hT⟩
                  | 11, _ => exact stepV rfl (wantedOf rfl (yieldedAt rfl rfl (show a.eval (.tmp 113) = .bool false from (hdep _ rfl 7 rfl _ rfl _ rfl)))) (execLd3 rfl (hdep _ rfl 10 rfl _ rfl _ rfl) (czz 0 (by omega) X hT.1)) ⟨⟨_, rfl, rfl⟩, hT⟩
                  | 12, _ => exact stepV rfl (wantedOf rfl (yieldedAt rfl rfl (show a.eval (.tmp 113) = .bool false from (hdep _ rfl 7 rfl _ rfl _ rfl)))) (execDec (execGtN (p := szF N D j) (q := szF N D 0) rfl (hdep _ rfl 8 rfl _ rfl _ rfl) (hdep _ rfl 11 rfl _ rfl _ rfl)) (decide_eq_false (by omega))) ⟨⟨_, rfl, rfl⟩, hT⟩
                  | 13, _ => exact stepV rfl rfl (execPickF rfl (hdep _ rfl 7 rfl _ rfl _ rfl) (hdep _ rfl 12 rfl _ rfl _ rfl)) ⟨⟨_, rfl, rfl⟩, hT⟩
                  | 14, _ => exact stepV rfl rfl (execMvB rfl (hdep _ rfl 13 rfl _ rfl _ rfl)) ⟨⟨_, rfl, rfl⟩, hT⟩
                  | 15, _ => exact stepV rfl (wantedOf rfl (yieldedAt rfl rfl (show a.eval (.tmp 120) = .bool false from (hdep _ rfl 14 rfl _ rfl _ rfl)))) (execMvB rfl ((hf 7 (by decide)).trans t7)) ⟨⟨_, rfl, rfl⟩, hT⟩
                  | 16, _ => exact stepV rfl (wantedOf rfl (yieldedAt rfl rfl (show a.eval (.tmp 120) = .bool false from (hdep _ rfl 14 rfl _ rfl _ rfl)))) (execIdxN (k := 0) rfl ((hdep _ rfl 15 rfl _ rfl _ rfl).trans ezz) rfl (by omega)) ⟨⟨_, rfl, rfl⟩, hT⟩
                  | 17, _ => exact stepV rfl (wantedOf rfl (yieldedAt rfl rfl (show a.eval (.tmp 120) = .bool false from (hdep _ rfl 14 rfl _ rfl _ rfl)))) (execLd3 rfl (hdep _ rfl 16 rfl _ rfl _ rfl) (czz 0 (by omega) X hT.1)) ⟨⟨_, rfl, rfl⟩, hT⟩
                  | 18, _ => exact stepV rfl (wantedOf rfl (yieldedAt rfl rfl (show a.eval (.tmp 120) = .bool false from (hdep _ rfl 14 rfl _ rfl _ rfl)))) (execMvB rfl ((hf 7 (by decide)).trans t7)) ⟨⟨_, rfl, rfl⟩, hT⟩
                  | 19, _ => exact stepV rfl (wantedOf rfl (yieldedAt rfl rfl (show a.eval (.tmp 120) = .bool false from (hdep _ rfl 14 rfl _ rfl _ rfl)))) (execMvB rfl ((hf 1 (by decide)).trans t1)) ⟨⟨_, rfl, rfl⟩, hT⟩
                  | 20, _ => exact stepV rfl (wantedOf rfl (yieldedAt rfl rfl (show a.eval (.tmp 120) = .bool false from (hdep _ rfl 14 rfl _ rfl _ rfl)))) (By8.execSubI (p := D) (q := 1) rfl (hdep _ rfl 19 rfl _ rfl _ rfl) rfl (by omega) (by omega)) ⟨⟨_, rfl, rfl⟩, hT⟩
                  | 21, _ => exact stepV rfl (wantedOf rfl (yieldedAt rfl rfl (show a.eval (.tmp 120) = .bool false from (hdep _ rfl 14 rfl _ rfl _ rfl)))) (execIdxN (k := D - 1) rfl ((hdep _ rfl 18 rfl _ rfl _ rfl).trans ezz) (hdep _ rfl 20 rfl _ rfl _ rfl) (by omega)) ⟨⟨_, rfl, rfl⟩, hT⟩
                  | 22, _ => exact stepV rfl (wantedOf rfl (yieldedAt rfl rfl (show a.eval (.tmp 120) = .bool false from (hdep _ rfl 14 rfl _ rfl _ rfl)))) (execLd3 rfl (hdep _ rfl 21 rfl _ rfl _ rfl) (czz (D - 1) (by omega) X hT.1)) ⟨⟨_, rfl, rfl⟩, hT⟩
                  | 23, _ => exact stepV rfl (wantedOf rfl (yieldedAt rfl rfl (show a.eval (.tmp 120) = .bool false from (hdep _ rfl 14 rfl _ rfl _ rfl)))) (By8.execSubI (p := szF N D 0) (q := szF N D (D - 1)) rfl (hdep _ rfl 17 rfl _ rfl _ rfl) (hdep _ rfl 22 rfl _ rfl _ rfl) (by omega) (by omega)) ⟨⟨_, rfl, rfl⟩, hT⟩
                  | 24, _ => exact stepV rfl (wantedOf rfl (yieldedAt rfl rfl (show a.eval (.tmp 120) = .bool false from (hdep _ rfl 14 rfl _ rfl _ rfl)))) (execDec (execGtN (p := szF N D 0 - (szF N D (D - 1))) (q := 1) rfl (hdep _ rfl 23 rfl _ rfl _ rfl) rfl) (decide_eq_false (by omega))) ⟨⟨_, rfl, rfl⟩, hT⟩
                  | 25, _ => exact stepV rfl rfl (execPickF rfl (hdep _ rfl 14 rfl _ rfl _ rfl) (hdep _ rfl 24 rfl _ rfl _ rfl)) ⟨⟨_, rfl, rfl⟩, hT⟩
                  | 26, _ => exact stepV rfl rfl (execMvB rfl (hdep _ rfl 25 rfl _ rfl _ rfl)) ⟨⟨_, rfl, rfl⟩, hT⟩
                  | 27, _ => exact stepV rfl (wantedOf rfl (yieldedAt rfl rfl (show a.eval (.tmp 132) = .bool false from (hdep _ rfl 26 rfl _ rfl _ rfl)))) (execMvB rfl ((hf 15 (by decide)).trans t15)) ⟨⟨_, rfl, rfl⟩, hT⟩
                  | 28, _ => exact stepV rfl (wantedOf rfl (yieldedAt rfl rfl (show a.eval (.tmp 132) = .bool false from (hdep _ rfl 26 rfl _ rfl _ rfl)))) (execDec (execGtN (p := j) (q := 0) rfl (hdep _ rfl 27 rfl _ rfl _ rfl) rfl) (decide_eq_false (by omega))) ⟨⟨_, rfl, rfl⟩, hT⟩
                  | 29, _ => exact stepV rfl (wantedOf rfl (yieldedAt rfl rfl (show a.eval (.tmp 132) = .bool false from (hdep _ rfl 26 rfl _ rfl _ rfl)))) (execMvB rfl (hdep _ rfl 28 rfl _ rfl _ rfl)) ⟨⟨_, rfl, rfl⟩, hT⟩
                  | 30, _ => exact stepU rfl (unwantedOf rfl (yieldedAt rfl rfl (show a.eval (.tmp 135) = .bool (!true) from (hdep _ rfl 29 rfl _ rfl _ rfl)))) ⟨⟨_, rfl, rfl⟩, hT⟩
                  | 31, _ => exact stepU rfl (unwantedOf rfl (yieldedAt rfl rfl (show a.eval (.tmp 135) = .bool (!true) from (hdep _ rfl 29 rfl _ rfl _ rfl)))) ⟨⟨_, rfl, rfl⟩, hT⟩
                  | 32, _ => exact stepU rfl (unwantedOf rfl (yieldedAt rfl rfl (show a.eval (.tmp 135) = .bool (!true) from (hdep _ rfl 29 rfl _ rfl _ rfl)))) ⟨⟨_, rfl, rfl⟩, hT⟩
                  | 33, _ => exact stepU rfl (unwantedOf rfl (yieldedAt rfl rfl (show a.eval (.tmp 135) = .bool (!true) from (hdep _ rfl 29 rfl _ rfl _ rfl)))) ⟨⟨_, rfl, rfl⟩, hT⟩
                  | 34, _ => exact stepU rfl (unwantedOf rfl (yieldedAt rfl rfl (show a.eval (.tmp 135) = .bool (!true) from (hdep _ rfl 29 rfl _ rfl _ rfl)))) ⟨⟨_, rfl, rfl⟩, hT⟩
                  | 35, _ => exact stepU rfl (unwantedOf rfl (yieldedAt rfl rfl (show a.eval (.tmp 135) = .bool (!true) from (hdep _ rfl 29 rfl _ rfl _ rfl)))) ⟨⟨_, rfl, rfl⟩, hT⟩
                  | 36, _ => exact stepU rfl (unwantedOf rfl (yieldedAt rfl rfl (show a.eval (.tmp 135) = .bool (!true) from (hdep _ rfl 29 rfl _ rfl _ rfl)))) ⟨⟨_, rfl, rfl⟩, hT⟩
                  | 37, _ => exact stepV rfl (wantedOf rfl (yieldedAt rfl rfl (show a.eval (.tmp 132) = .bool false from (hdep _ rfl 26 rfl _ rfl _ rfl)))) (execPickF rfl (hdep _ rfl 29 rfl _ rfl _ rfl) rfl) ⟨⟨_, rfl, rfl⟩, hT⟩
                  | 38, _ => exact stepV rfl rfl (execPickF rfl (hdep _ rfl 26 rfl _ rfl _ rfl) (hdep _ rfl 37 rfl _ rfl _ rfl)) ⟨⟨_, rfl, rfl⟩, hT⟩
                  | k_ + 39, h_ => exact absurd h_ (by simp)
                intro l_ a X27 h1 h2 h3 h4 hall hT
                clear hall
                clear BB
                clear FM
                clear FP
                obtain ⟨BB, FM, FP⟩ := hT
                replace t0 := (h3 0 (by decide)).trans t0
                replace t1 := (h3 1 (by decide)).trans t1
                replace t7 := (h3 7 (by decide)).trans t7
                replace t10 := (h3 10 (by decide)).trans t10
                replace t13 := (h3 13 (by decide)).trans t13
                replace t14 := (h3 14 (by decide)).trans t14
                replace t99 := (h3 99 (by decide)).trans t99
                replace t100 := (h3 100 (by decide)).trans t100
                replace t101 := (h3 101 (by decide)).trans t101
                replace t16 := (h3 16 (by decide)).trans t16
                have t144 : a.eval (.tmp 144) = .bool false := h4 (38, 144) (by decide)
                replace A := (⟨h1, h2.trans A.2⟩ : a.tmps.size = 238 ∧ a.defers = [])
                clear h1 h2 h3 h4
                clear t15
                refine wp_cond_false t144 ?_
                refine wp_skip ?_
                clear t144
                refine wp_seq ?_
                refine wp_region_sq (σ := Unit) 238 [(0, 17)] (fun j_ s X => match j_ with | 0 => Below X24.heap.size X24 X ∧ (FmI X24.heap.size j (x) (szF N D) (ggS N D) X) ∧ (X.ownsRow X24.heap.size 23 1 p j (lL (x) j)) | _ => Below X24.heap.size X24 X ∧ (FmI X24.heap.size j (x) (szF N D) (ggS N D) X) ∧ (X.ownsRow X24.heap.size 23 1 p j (lL (x) j))) (fun s => fun i_ => match i_ with | 0 => .slice none 0 0 | _ => undef) () A.1 (by kernel_rfl) (by decide) (by decide) ⟨BB, FM, FP⟩ ?_ ?_
                · intro i_ hi_ s a X hf hv hn hS
                  match i_, hi_ with
                  | 0, _ => exact stepV rfl rfl (execAsgB rfl rfl) ⟨s, ⟨_, rfl, rfl⟩, hS, fun _ _ => rfl⟩
                  | k_ + 1, h_ => exact absurd h_ (by simp)
                rintro _ a X29 h1 h2 h3 h4 hS
                clear BB
                clear FM
                clear FP
                replace hS : Below X24.heap.size X24 X29 ∧ (FmI X24.heap.size j (x) (szF N D) (ggS N D) X29) ∧ (X29.ownsRow X24.heap.size 23 1 p j (lL (x) j)) := hS
                obtain ⟨BB, FM, FP⟩ := hS
                replace t0 := (h3 0 (by decide)).trans t0
                replace t1 := (h3 1 (by decide)).trans t1
                replace t7 := (h3 7 (by decide)).trans t7
                replace t10 := (h3 10 (by decide)).trans t10
                replace t13 := (h3 13 (by decide)).trans t13
                replace t14 := (h3 14 (by decide)).trans t14
                replace t99 := (h3 99 (by decide)).trans t99
                replace t100 := (h3 100 (by decide)).trans t100
                replace t101 := (h3 101 (by decide)).trans t101
                replace t16 := (h3 16 (by decide)).trans t16
                have t17 : a.eval (.tmp 17) = .slice none 0 0 := h4 0 _ rfl _ rfl
                replace A := (⟨h1, h2.trans A.2⟩ : a.tmps.size = 238 ∧ a.defers = [])
                clear h1 h2 h3 h4
                refine wp_seq ?_
                refine wp_seq ?_
                refine wp_region_sq (σ := Unit) 238 [(0, 145), (1, 146)] (fun j_ s X => match j_ with | 0 => Below X24.heap.size X24 X ∧ (FmI X24.heap.size j (x) (szF N D) (ggS N D) X) ∧ (X.ownsRow X24.heap.size 23 1 p j (lL (x) j)) | 1 => Below X24.heap.size X24 X ∧ (FmI X24.heap.size j (x) (szF N D) (ggS N D) X) ∧ (X.ownsRow X24.heap.size 23 1 p j (lL (x) j)) | _ => Below X24.heap.size X24 X ∧ (FmI X24.heap.size j (x) (szF N D) (ggS N D) X) ∧ (X.ownsRow X24.heap.size 23 1 p j (lL (x) j))) (fun s => fun i_ => match i_ with | 0 => .int .i64 ((szF N D j : Nat) : Int) | 1 => .int .i64 ((0 : Nat) : Int) | _ => undef) () A.1 (by kernel_rfl) (by decide) (by decide) ⟨BB, FM, FP⟩ ?_ ?_
                · intro i_ hi_ s a X hf hv hn hS
                  match i_, hi_ with
                  | 0, _ => exact stepV rfl rfl (execMvB rfl ((hf 16 (by decide)).trans t16)) ⟨s, ⟨_, rfl, rfl⟩, hS, fun _ _ => rfl⟩
                  | 1, _ => exact stepV rfl rfl (execMvB rfl rfl) ⟨s, ⟨_, rfl, rfl⟩, hS, fun _ _ => rfl⟩
                  | k_ + 2, h_ => exact absurd h_ (by simp)
                rintro _ a X30 h1 h2 h3 h4 hS
                clear BB
                clear FM
                clear FP
                replace hS : Below X24.heap.size X24 X30 ∧ (FmI X24.heap.size j (x) (szF N D) (ggS N D) X30) ∧ (X30.ownsRow X24.heap.size 23 1 p j (lL (x) j)) := hS
                obtain ⟨BB, FM, FP⟩ := hS
                replace t0 := (h3 0 (by decide)).trans t0
                replace t1 := (h3 1 (by decide)).trans t1
                replace t7 := (h3 7 (by decide)).trans t7
                replace t10 := (h3 10 (by decide)).trans t10
                replace t13 := (h3 13 (by decide)).trans t13
                replace t14 := (h3 14 (by decide)).trans t14
                replace t99 := (h3 99 (by decide)).trans t99
                replace t100 := (h3 100 (by decide)).trans t100
                replace t101 := (h3 101 (by decide)).trans t101
                replace t17 := (h3 17 (by decide)).trans t17
                have t145 : a.eval (.tmp 145) = .int .i64 ((szF N D j : Nat) : Int) := h4 0 _ rfl _ rfl
                have t146 : a.eval (.tmp 146) = .int .i64 ((0 : Nat) : Int) := h4 1 _ rfl _ rfl
                replace A := (⟨h1, h2.trans A.2⟩ : a.tmps.size = 238 ∧ a.defers = [])
                clear h1 h2 h3 h4
                clear t16
                have hBC := BB.size
                have hlt : ∀ t, t < j → ∀ b, (x t).ownBlock = some b → b < X30.heap.size := fun t ht b q => ((FM.rows t ht).lt b q).2
                have FL : X30.ownsRow X30.heap.size 3 1 (.slice none 0 0) 0 (intsL 0 (ggS N D j)) := World.ownsRow_nil _ _ _ _
                have FC : X30.heap.size ≤ X30.heap.size := Nat.le_refl _
                refine wp_block ?_
                refine wp_loop (fun a W => ∃ (i : Nat) (l : Value), i ≤ szF N D j ∧ (a.tmps.size = 238 ∧ a.defers = []) ∧ a.eval (.tmp 0) = .int .i64 ((N : Nat) : Int) ∧ a.eval (.tmp 1) = .int .i64 ((D : Nat) : Int) ∧ a.eval (.tmp 7) = z32 ∧ a.eval (.tmp 10) = .slice (some ⟨g72, 0, none⟩) N N ∧ a.eval (.tmp 13) = p ∧ a.eval (.tmp 14) = .int .i64 ((sumN (szF N D) j + i : Nat) : Int) ∧ a.eval (.tmp 99) = z32 ∧ a.eval (.tmp 100) = .int .i64 ((D : Nat) : Int) ∧ a.eval (.tmp 101) = .int .i64 ((j : Nat) : Int) ∧ a.eval (.tmp 17) = l ∧ a.eval (.tmp 145) = .int .i64 ((szF N D j : Nat) : Int) ∧ a.eval (.tmp 146) = .int .i64 ((i : Nat) : Int) ∧ Below X24.heap.size X24 W ∧ (FmI X24.heap.size j (x) (szF N D) (ggS N D) W) ∧ (W.ownsRow X24.heap.size 23 1 p j (lL (x) j)) ∧ (W.ownsRow X30.heap.size 3 1 l i (intsL i (ggS N D j))) ∧ (X30.heap.size ≤ W.heap.size)) (fun a _ => szF N D j - (intOf (a.eval (.tmp 146))).toNat) ⟨0, _, Nat.zero_le _, A, t0, t1, t7, t10, t13, t14, t99, t100, t101, t17, t145, t146, BB, FM, FP, FL, FC⟩ ?_
                clear A t0 t1 t7 t10 t13 t14 t99 t100 t101 t17 t145 t146 BB FM FP FL FC a
                rintro a XL31 ⟨i, l, hi, A, t0, t1, t7, t10, t13, t14, t99, t100, t101, t17, t145, t146, BB, FM, FP, FL, FC⟩
                have esi := t146
                refine wp_seq ?_
                refine wp_region_sq (σ := Unit) 238 [(0, 147)] (fun j_ s X => match j_ with | 0 => Below X24.heap.size X24 X ∧ (FmI X24.heap.size j (x) (szF N D) (ggS N D) X) ∧ (X.ownsRow X24.heap.size 23 1 p j (lL (x) j)) ∧ (X.ownsRow X30.heap.size 3 1 l i (intsL i (ggS N D j))) ∧ (X30.heap.size ≤ X.heap.size) | _ => Below X24.heap.size X24 X ∧ (FmI X24.heap.size j (x) (szF N D) (ggS N D) X) ∧ (X.ownsRow X24.heap.size 23 1 p j (lL (x) j)) ∧ (X.ownsRow X30.heap.size 3 1 l i (intsL i (ggS N D j))) ∧ (X30.heap.size ≤ X.heap.size)) (fun s => fun i_ => match i_ with | 0 => .bool (decide (i < szF N D j)) | _ => undef) () A.1 (by kernel_rfl) (by decide) (by decide) ⟨BB, FM, FP, FL, FC⟩ ?_ ?_
                · intro i_ hi_ s a X hf hv hn hS
                  match i_, hi_ with
                  | 0, _ => exact stepV rfl rfl (execLtW (p := i) (q := szF N D j) rfl ((hf 146 (by decide)).trans t146) ((hf 145 (by decide)).trans t145)) ⟨s, ⟨_, rfl, rfl⟩, hS, fun _ _ => rfl⟩
                  | k_ + 1, h_ => exact absurd h_ (by simp)
                rintro _ a X31 h1 h2 h3 h4 hS
                clear BB
                clear FM
                clear FP
                clear FL
                clear FC
                replace hS : Below X24.heap.size X24 X31 ∧ (FmI X24.heap.size j (x) (szF N D) (ggS N D) X31) ∧ (X31.ownsRow X24.heap.size 23 1 p j (lL (x) j)) ∧ (X31.ownsRow X30.heap.size 3 1 l i (intsL i (ggS N D j))) ∧ (X30.heap.size ≤ X31.heap.size) := hS
                obtain ⟨BB, FM, FP, FL, FC⟩ := hS
                replace t0 := (h3 0 (by decide)).trans t0
                replace t1 := (h3 1 (by decide)).trans t1
                replace t7 := (h3 7 (by decide)).trans t7
                replace t10 := (h3 10 (by decide)).trans t10
                replace t13 := (h3 13 (by decide)).trans t13
                replace t14 := (h3 14 (by decide)).trans t14
                replace t99 := (h3 99 (by decide)).trans t99
                replace t100 := (h3 100 (by decide)).trans t100
                replace t101 := (h3 101 (by decide)).trans t101
                replace t17 := (h3 17 (by decide)).trans t17
                replace t145 := (h3 145 (by decide)).trans t145
                replace t146 := (h3 146 (by decide)).trans t146
                have t147 : a.eval (.tmp 147) = .bool (decide (i < szF N D j)) := h4 0 _ rfl _ rfl
                replace A := (⟨h1, h2.trans A.2⟩ : a.tmps.size = 238 ∧ a.defers = [])
                clear h1 h2 h3 h4
                refine wp_seq ?_
                by_cases lti : i < szF N D j
                · rw [decide_eq_true lti] at t147
                  refine wp_cond_true t147 ?_
                  refine wp_skip ?_
                  clear t147
                  refine wp_seq ?_
                  refine wp_block ?_
                  refine wp_seq ?_
                  refine wp_region_sq (σ := Nat × Value) 238 [(0, 148), (1, 149), (2, 150), (3, 151), (4, 17)] (fun j_ s X => match j_ with | 0 => Below X24.heap.size X24 X ∧ (FmI X24.heap.size j (x) (szF N D) (ggS N D) X) ∧ (X.ownsRow X24.heap.size 23 1 p j (lL (x) j)) ∧ (X.ownsRow X30.heap.size 3 1 l i (intsL i (ggS N D j))) ∧ (X30.heap.size ≤ X.heap.size) | 1 => Below X24.heap.size X24 X ∧ (FmI X24.heap.size j (x) (szF N D) (ggS N D) X) ∧ (X.ownsRow X24.heap.size 23 1 p j (lL (x) j)) ∧ (X.ownsRow X30.heap.size 3 1 l i (intsL i (ggS N D j))) ∧ (X30.heap.size ≤ X.heap.size) | 2 => Below X24.heap.size X24 X ∧ (FmI X24.heap.size j (x) (szF N D) (ggS N D) X) ∧ (X.ownsRow X24.heap.size 23 1 p j (lL (x) j)) ∧ (X.ownsRow X30.heap.size 3 1 l i (intsL i (ggS N D j))) ∧ (X30.heap.size ≤ X.heap.size) | 3 => Below X24.heap.size X24 X ∧ (FmI X24.heap.size j (x) (szF N D) (ggS N D) X) ∧ (X.ownsRow X24.heap.size 23 1 p j (lL (x) j)) ∧ (X.ownsRow X30.heap.size 3 1 l i (intsL i (ggS N D j))) ∧ (X30.heap.size ≤ X.heap.size) ∧ (X.heap[s.1]? = some (.cells #[.int .i64 (ggS N D j i)] 3)) | 4 => Below X24.heap.size X24 X ∧ (FmI X24.heap.size j (x) (szF N D) (ggS N D) X) ∧ (X.ownsRow X24.heap.size 23 1 p j (lL (x) j)) ∧ (X30.heap.size ≤ X.heap.size) ∧ (X.ownsRow X30.heap.size 3 1 s.2 (i + 1) (intsL (i + 1) (ggS N D j))) | _ => Below X24.heap.size X24 X ∧ (FmI X24.heap.size j (x) (szF N D) (ggS N D) X) ∧ (X.ownsRow X24.heap.size 23 1 p j (lL (x) j)) ∧ (X30.heap.size ≤ X.heap.size) ∧ (X.ownsRow X30.heap.size 3 1 s.2 (i + 1) (intsL (i + 1) (ggS N D j)))) (fun s => fun i_ => match i_ with | 0 => l | 1 => .int .i64 ((sumN (szF N D) j + i : Nat) : Int) | 2 => .slice (some ⟨s.1, 0, none⟩) 1 1 | 3 => s.2 | 4 => s.2 | _ => undef) (0, undef) A.1 (by kernel_rfl) (by decide) (by decide) ⟨BB, FM, FP, FL, FC⟩ ?_ ?_
                  · intro i_ hi_ s a X hf hv hn hS
                    match i_, hi_ with
                    | 0, _ => exact stepV rfl rfl (execMvB rfl ((hn 4 (by decide) _ rfl _ rfl).trans t17)) ⟨s, ⟨_, rfl, rfl⟩, hS, fun _ _ => rfl⟩
                    | 1, _ => exact stepV rfl rfl (execMvB rfl ((hf 14 (by decide)).trans t14)) ⟨s, ⟨_, rfl, rfl⟩, hS, fun _ _ => rfl⟩
                    | 2, _ =>
                      refine stepV rfl rfl (execBsI (z := ggS N D j i) rfl (hv 1 (by decide) _ rfl _ rfl)) ⟨(X.heap.size, s.2), ⟨_, rfl, rfl⟩, ⟨(hS.1).trans (((belNew X _)).mono (hS.1).size), (hS.2.1.on (belNew X _)), (ownD_below hS.2.2.1 (belNew X _)), (ownD_below hS.2.2.2.1 (belNew X _)), (Nat.le_trans hS.2.2.2.2 ((belNew X _)).size), heapNew X _⟩, fun i hi => ?_⟩
                      match i, hi with
                      | 0, _ => rfl
                      | 1, _ => rfl
                      | n_ + 2, h_ => omega
                    | 3, _ =>
                      refine stepAppI (f := ggS N D j) rfl rfl rfl (hv 0 (by decide) _ rfl _ rfl) (hv 2 (by decide) _ rfl _ rfl) hS.2.2.2.1 hS.2.2.2.2.2 (by omega) hS.2.2.2.2.1 fun v' W' own' gr => ⟨(s.1, v'), ⟨_, rfl, rfl⟩, ⟨(hS.1).grown gr (hS.1).size (fun k hk => Nat.le_trans hBC (hS.2.2.2.1.lt k hk).1), hS.2.1.over hlt hS.2.2.2.1 gr, own_overT hS.2.2.1 hS.2.2.2.1 gr (by decide), Nat.le_trans hS.2.2.2.2.1 gr.size, own'⟩, fun i hi => ?_⟩
                      match i, hi with
                      | 0, _ => rfl
                      | 1, _ => rfl
                      | 2, _ => rfl
                      | n_ + 3, h_ => omega
                    | 4, _ => exact stepV rfl rfl (execAsgB rfl (hv 3 (by decide) _ rfl _ rfl)) ⟨s, ⟨_, rfl, rfl⟩, hS, fun _ _ => rfl⟩
                    | k_ + 5, h_ => exact absurd h_ (by simp)
                  rintro ⟨g150, v151⟩ a X32 h1 h2 h3 h4 hS
                  clear BB
                  clear FM
                  clear FP
                  clear FL
                  clear FC
                  replace hS : Below X24.heap.size X24 X32 ∧ (FmI X24.heap.size j (x) (szF N D) (ggS N D) X32) ∧ (X32.ownsRow X24.heap.size 23 1 p j (lL (x) j)) ∧ (X30.heap.size ≤ X32.heap.size) ∧ (X32.ownsRow X30.heap.size 3 1 v151 (i + 1) (intsL (i + 1) (ggS N D j))) := hS
                  obtain ⟨BB, FM, FP, FC, FL2⟩ := hS
                  replace t0 := (h3 0 (by decide)).trans t0
                  replace t1 := (h3 1 (by decide)).trans t1
                  replace t7 := (h3 7 (by decide)).trans t7
                  replace t10 := (h3 10 (by decide)).trans t10
                  replace t13 := (h3 13 (by decide)).trans t13
                  replace t14 := (h3 14 (by decide)).trans t14
                  replace t99 := (h3 99 (by decide)).trans t99
                  replace t100 := (h3 100 (by decide)).trans t100
                  replace t101 := (h3 101 (by decide)).trans t101
                  replace t17 : a.eval (.tmp 17) = v151 := h4 4 _ rfl _ rfl
                  replace t145 := (h3 145 (by decide)).trans t145
                  replace t146 := (h3 146 (by decide)).trans t146
                  replace A := (⟨h1, h2.trans A.2⟩ : a.tmps.size = 238 ∧ a.defers = [])
                  clear h1 h2 h3 h4
                  refine wp_region_sq (σ := Unit) 238 [(0, 152), (1, 153), (2, 14)] (fun j_ s X => match j_ with | 0 => Below X24.heap.size X24 X ∧ (FmI X24.heap.size j (x) (szF N D) (ggS N D) X) ∧ (X.ownsRow X24.heap.size 23 1 p j (lL (x) j)) ∧ (X30.heap.size ≤ X.heap.size) ∧ (X.ownsRow X30.heap.size 3 1 v151 (i + 1) (intsL (i + 1) (ggS N D j))) | 1 => Below X24.heap.size X24 X ∧ (FmI X24.heap.size j (x) (szF N D) (ggS N D) X) ∧ (X.ownsRow X24.heap.size 23 1 p j (lL (x) j)) ∧ (X30.heap.size ≤ X.heap.size) ∧ (X.ownsRow X30.heap.size 3 1 v151 (i + 1) (intsL (i + 1) (ggS N D j))) | 2 => Below X24.heap.size X24 X ∧ (FmI X24.heap.size j (x) (szF N D) (ggS N D) X) ∧ (X.ownsRow X24.heap.size 23 1 p j (lL (x) j)) ∧ (X30.heap.size ≤ X.heap.size) ∧ (X.ownsRow X30.heap.size 3 1 v151 (i + 1) (intsL (i + 1) (ggS N D j))) | _ => Below X24.heap.size X24 X ∧ (FmI X24.heap.size j (x) (szF N D) (ggS N D) X) ∧ (X.ownsRow X24.heap.size 23 1 p j (lL (x) j)) ∧ (X30.heap.size ≤ X.heap.size) ∧ (X.ownsRow X30.heap.size 3 1 v151 (i + 1) (intsL (i + 1) (ggS N D j)))) (fun s => fun i_ => match i_ with | 0 => .int .i64 ((sumN (szF N D) j + i : Nat) : Int) | 1 => .int .i64 ((sumN (szF N D) j + i + 1 : Nat) : Int) | 2 => .int .i64 ((sumN (szF N D) j + i + 1 : Nat) : Int) | _ => undef) () A.1 (by kernel_rfl) (by decide) (by decide) ⟨BB, FM, FP, FC, FL2⟩ ?_ ?_
                  · intro i_ hi_ s a X hf hv hn hS
                    match i_, hi_ with
                    | 0, _ => exact stepV rfl rfl (execMvB rfl ((hn 2 (by decide) _ rfl _ rfl).trans t14)) ⟨s, ⟨_, rfl, rfl⟩, hS, fun _ _ => rfl⟩
                    | 1, _ => exact stepV rfl rfl (execAd8 (p := sumN (szF N D) j + i) (q := 1) rfl (hv 0 (by decide) _ rfl _ rfl) rfl (by omega)) ⟨s, ⟨_, rfl, rfl⟩, hS, fun _ _ => rfl⟩
                    | 2, _ => exact stepV rfl rfl (execAsgB rfl (hv 1 (by decide) _ rfl _ rfl)) ⟨s, ⟨_, rfl, rfl⟩, hS, fun _ _ => rfl⟩
                    | k_ + 3, h_ => exact absurd h_ (by simp)
                  rintro _ a X33 h1 h2 h3 h4 hS
                  clear BB
                  clear FM
                  clear FP
                  clear FC
                  clear FL2
                  replace hS : Below X24.heap.size X24 X33 ∧ (FmI X24.heap.size j (x) (szF N D) (ggS N D) X33) ∧ (X33.ownsRow X24.heap.size 23 1 p j (lL (x) j)) ∧ (X30.heap.size ≤ X33.heap.size) ∧ (X33.ownsRow X30.heap.size 3 1 v151 (i + 1) (intsL (i + 1) (ggS N D j))) := hS
                  obtain ⟨BB, FM, FP, FC, FL2⟩ := hS
                  replace t0 := (h3 0 (by decide)).trans t0
                  replace t1 := (h3 1 (by decide)).trans t1
                  replace t7 := (h3 7 (by decide)).trans t7
                  replace t10 := (h3 10 (by decide)).trans t10
                  replace t13 := (h3 13 (by decide)).trans t13
                  replace t14 : a.eval (.tmp 14) = .int .i64 ((sumN (szF N D) j + i + 1 : Nat) : Int) := h4 2 _ rfl _ rfl
                  replace t99 := (h3 99 (by decide)).trans t99
                  replace t100 := (h3 100 (by decide)).trans t100
                  replace t101 := (h3 101 (by decide)).trans t101
                  replace t17 := (h3 17 (by decide)).trans t17
                  replace t145 := (h3 145 (by decide)).trans t145
                  replace t146 := (h3 146 (by decide)).trans t146
                  replace A := (⟨h1, h2.trans A.2⟩ : a.tmps.size = 238 ∧ a.defers = [])
                  clear h1 h2 h3 h4
                  rw [Nat.add_assoc] at t14
                  refine wp_region_sq (σ := Unit) 238 [(0, 154), (1, 146)] (fun j_ s X => match j_ with | 0 => Below X24.heap.size X24 X ∧ (FmI X24.heap.size j (x) (szF N D) (ggS N D) X) ∧ (X.ownsRow X24.heap.size 23 1 p j (lL (x) j)) ∧ (X30.heap.size ≤ X.heap.size) ∧ (X.ownsRow X30.heap.size 3 1 v151 (i + 1) (intsL (i + 1) (ggS N D j))) | 1 => Below X24.heap.size X24 X ∧ (FmI X24.heap.size j (x) (szF N D) (ggS N D) X) ∧ (X.ownsRow X24.heap.size 23 1 p j (lL (x) j)) ∧ (X30.heap.size ≤ X.heap.size) ∧ (X.ownsRow X30.heap.size 3 1 v151 (i + 1) (intsL (i + 1) (ggS N D j))) | _ => Below X24.heap.size X24 X ∧ (FmI X24.heap.size j (x) (szF N D) (ggS N D) X) ∧ (X.ownsRow X24.heap.size 23 1 p j (lL (x) j)) ∧ (X30.heap.size ≤ X.heap.size) ∧ (X.ownsRow X30.heap.size 3 1 v151 (i + 1) (intsL (i + 1) (ggS N D j)))) (fun s => fun i_ => match i_ with | 0 => .int .i64 ((i + 1 : Nat) : Int) | 1 => .int .i64 ((i + 1 : Nat) : Int) | _ => undef) () A.1 (by kernel_rfl) (by decide) (by decide) ⟨BB, FM, FP, FC, FL2⟩ ?_ ?_
                  · intro i_ hi_ s a X hf hv hn hS
                    match i_, hi_ with
                    | 0, _ => exact stepV rfl rfl (execAd8 (p := i) (q := 1) rfl ((hn 1 (by decide) _ rfl _ rfl).trans t146) rfl (by omega)) ⟨s, ⟨_, rfl, rfl⟩, hS, fun _ _ => rfl⟩
                    | 1, _ => exact stepV rfl rfl (execMvB rfl (hv 0 (by decide) _ rfl _ rfl)) ⟨s, ⟨_, rfl, rfl⟩, hS, fun _ _ => rfl⟩
                    | k_ + 2, h_ => exact absurd h_ (by simp)
                  rintro _ a X34 h1 h2 h3 h4 hS
                  clear BB
                  clear FM
                  clear FP
                  clear FC
                  clear FL2
                  replace hS : Below X24.heap.size X24 X34 ∧ (FmI X24.heap.size j (x) (szF N D) (ggS N D) X34) ∧ (X34.ownsRow X24.heap.size 23 1 p j (lL (x) j)) ∧ (X30.heap.size ≤ X34.heap.size) ∧ (X34.ownsRow X30.heap.size 3 1 v151 (i + 1) (intsL (i + 1) (ggS N D j))) := hS
                  obtain ⟨BB, FM, FP, FC, FL2⟩ := hS
                  replace t0 := (h3 0 (by decide)).trans t0
                  replace t1 := (h3 1 (by decide)).trans t1
                  replace t7 := (h3 7 (by decide)).trans t7
                  replace t10 := (h3 10 (by decide)).trans t10
                  replace t13 := (h3 13 (by decide)).trans t13
                  replace t14 := (h3 14 (by decide)).trans t14
                  replace t99 := (h3 99 (by decide)).trans t99
                  replace t100 := (h3 100 (by decide)).trans t100
                  replace t101 := (h3 101 (by decide)).trans t101
                  replace t17 := (h3 17 (by decide)).trans t17
                  replace t145 := (h3 145 (by decide)).trans t145
                  replace t146 : a.eval (.tmp 146) = .int .i64 ((i + 1 : Nat) : Int) := h4 1 _ rfl _ rfl
                  replace A := (⟨h1, h2.trans A.2⟩ : a.tmps.size = 238 ∧ a.defers = [])
                  clear h1 h2 h3 h4
                  exact ⟨⟨i + 1, _, lti, A, t0, t1, t7, t10, t13, t14, t99, t100, t101, t17, t145, t146, BB, FM, FP, FL2, FC⟩, by show szF N D j - (intOf (a.eval (.tmp 146))).toNat < szF N D j - (intOf (Act.eval _ (.tmp 146))).toNat; rw [t146, esi]; show szF N D j - (i + 1) < szF N D j - i; omega⟩
                · rw [decide_eq_false lti] at t147
                  refine wp_cond_false t147 ?_
                  refine wp_exit ?_
                  first | with_reducible refine exit_in ?_ | with_reducible refine exit_then (exit_in ?_) | with_reducible refine exit_then (exit_then (exit_in ?_)) | refine exit_in ?_ | refine exit_then (exit_in ?_) | refine exit_then (exit_then (exit_in ?_))
                  clear t147 esi
                  have his : i = szF N D j := by omega
                  rw [his] at FL t14
                  clear t145 t146
                  have FM2 := FmI.add FM hlt FL hBC rfl (fun _ _ => rfl)
                  have hlsh := shp3 FL
                  clear FM FL FC
                  refine wp_region_sq (σ := Nat × Value) 238 [(0, 155), (1, 156), (2, 157), (3, 158), (4, 13)] (fun j_ s X => match j_ with | 0 => Below X24.heap.size X24 X ∧ (FmI X24.heap.size (j + 1) (updX x j l) (szF N D) (ggS N D) X) ∧ (X.ownsRow X24.heap.size 23 1 p j (lL (x) j)) | 1 => Below X24.heap.size X24 X ∧ (FmI X24.heap.size (j + 1) (updX x j l) (szF N D) (ggS N D) X) ∧ (X.ownsRow X24.heap.size 23 1 p j (lL (x) j)) | 2 => Below X24.heap.size X24 X ∧ (FmI X24.heap.size (j + 1) (updX x j l) (szF N D) (ggS N D) X) ∧ (X.ownsRow X24.heap.size 23 1 p j (lL (x) j)) | 3 => Below X24.heap.size X24 X ∧ (FmI X24.heap.size (j + 1) (updX x j l) (szF N D) (ggS N D) X) ∧ (X.ownsRow X24.heap.size 23 1 p j (lL (x) j)) ∧ (X.heap[s.1]? = some (.cells #[l] 23)) | 4 => Below X24.heap.size X24 X ∧ (FmI X24.heap.size (j + 1) (updX x j l) (szF N D) (ggS N D) X) ∧ (X.ownsRow X24.heap.size 23 1 s.2 (j + 1) (lL (updX x j l) (j + 1))) | _ => Below X24.heap.size X24 X ∧ (FmI X24.heap.size (j + 1) (updX x j l) (szF N D) (ggS N D) X) ∧ (X.ownsRow X24.heap.size 23 1 s.2 (j + 1) (lL (updX x j l) (j + 1)))) (fun s => fun i_ => match i_ with | 0 => p | 1 => l | 2 => .slice (some ⟨s.1, 0, none⟩) 1 1 | 3 => s.2 | 4 => s.2 | _ => undef) (0, undef) A.1 (by kernel_rfl) (by decide) (by decide) ⟨BB, FM2, FP⟩ ?_ ?_
                  · intro i_ hi_ s a X hf hv hn hS
                    match i_, hi_ with
                    | 0, _ => exact stepV rfl rfl (execMvB rfl ((hn 4 (by decide) _ rfl _ rfl).trans t13)) ⟨s, ⟨_, rfl, rfl⟩, hS, fun _ _ => rfl⟩
                    | 1, _ => exact stepV rfl rfl (execMvB rfl ((hf 17 (by decide)).trans t17)) ⟨s, ⟨_, rfl, rfl⟩, hS, fun _ _ => rfl⟩
                    | 2, _ =>
                      refine stepV rfl rfl (execBsLI rfl (hv 1 (by decide) _ rfl _ rfl) hlsh) ⟨(X.heap.size, s.2), ⟨_, rfl, rfl⟩, ⟨(hS.1).trans (((belNew X _)).mono (hS.1).size), (hS.2.1.on (belNew X _)), (ownD_below hS.2.2 (belNew X _)), heapNew X _⟩, fun i hi => ?_⟩
                      match i, hi with
                      | 0, _ => rfl
                      | 1, _ => rfl
                      | n_ + 2, h_ => omega
                    | 3, _ =>
                      refine stepAppLI (y := x) (z := updX x j l) rfl rfl rfl (hv 0 (by decide) _ rfl _ rfl) (hv 2 (by decide) _ rfl _ rfl) hS.2.2.1 hS.2.2.2 rfl (fun t ht => by rw [show t = 0 by omega, Nat.add_zero, updX_at]; rfl) (fun t ht => by rw [show t = 0 by omega, Nat.add_zero, updX_at]; exact one_shp hlsh) (fun t ht => (updX_lt _ _ ht).symm) (by omega) (hS.1).size fun v' W' own' gr => ⟨(s.1, v'), ⟨_, rfl, rfl⟩, ⟨(hS.1).grown gr (hS.1).size (fun k hk => (hS.2.2.1.lt k hk).1), (hS.2.1.overT hS.2.2.1 (by decide) gr), own'⟩, fun i hi => ?_⟩
                      match i, hi with
                      | 0, _ => rfl
                      | 1, _ => rfl
                      | 2, _ => rfl
                      | n_ + 3, h_ => omega
                    | 4, _ => exact stepV rfl rfl (execAsgB rfl (hv 3 (by decide) _ rfl _ rfl)) ⟨s, ⟨_, rfl, rfl⟩, hS, fun _ _ => rfl⟩
                    | k_ + 5, h_ => exact absurd h_ (by simp)
                  rintro ⟨g157, v158⟩ a X35 h1 h2 h3 h4 hS
                  clear BB
                  clear FM2
                  clear FP
                  replace hS : Below X24.heap.size X24 X35 ∧ (FmI X24.heap.size (j + 1) (updX x j l) (szF N D) (ggS N D) X35) ∧ (X35.ownsRow X24.heap.size 23 1 v158 (j + 1) (lL (updX x j l) (j + 1))) := hS
                  obtain ⟨BB, FM2, FP2⟩ := hS
                  replace t0 := (h3 0 (by decide)).trans t0
                  replace t1 := (h3 1 (by decide)).trans t1
                  replace t7 := (h3 7 (by decide)).trans t7
                  replace t10 := (h3 10 (by decide)).trans t10
                  replace t13 : a.eval (.tmp 13) = v158 := h4 4 _ rfl _ rfl
                  replace t14 := (h3 14 (by decide)).trans t14
                  replace t99 := (h3 99 (by decide)).trans t99
                  replace t100 := (h3 100 (by decide)).trans t100
                  replace t101 := (h3 101 (by decide)).trans t101
                  replace A := (⟨h1, h2.trans A.2⟩ : a.tmps.size = 238 ∧ a.defers = [])
                  clear h1 h2 h3 h4
                  clear t17
                  refine wp_region_sq (σ := Unit) 238 [(0, 159), (1, 101)] (fun j_ s X => match j_ with | 0 => Below X24.heap.size X24 X ∧ (FmI X24.heap.size (j + 1) (updX x j l) (szF N D) (ggS N D) X) ∧ (X.ownsRow X24.heap.size 23 1 v158 (j + 1) (lL (updX x j l) (j + 1))) | 1 => Below X24.heap.size X24 X ∧ (FmI X24.heap.size (j + 1) (updX x j l) (szF N D) (ggS N D) X) ∧ (X.ownsRow X24.heap.size 23 1 v158 (j + 1) (lL (updX x j l) (j + 1))) | _ => Below X24.heap.size X24 X ∧ (FmI X24.heap.size (j + 1) (updX x j l) (szF N D) (ggS N D) X) ∧ (X.ownsRow X24.heap.size 23 1 v158 (j + 1) (lL (updX x j l) (j + 1)))) (fun s => fun i_ => match i_ with | 0 => .int .i64 ((j + 1 : Nat) : Int) | 1 => .int .i64 ((j + 1 : Nat) : Int) | _ => undef) () A.1 (by kernel_rfl) (by decide) (by decide) ⟨BB, FM2, FP2⟩ ?_ ?_
                  · intro i_ hi_ s a X hf hv hn hS
                    match i_, hi_ with
                    | 0, _ => exact stepV rfl rfl (execAd8 (p := j) (q := 1) rfl ((hn 1 (by decide) _ rfl _ rfl).trans t101) rfl (by omega)) ⟨s, ⟨_, rfl, rfl⟩, hS, fun _ _ => rfl⟩
                    | 1, _ => exact stepV rfl rfl (execMvB rfl (hv 0 (by decide) _ rfl _ rfl)) ⟨s, ⟨_, rfl, rfl⟩, hS, fun _ _ => rfl⟩
                    | k_ + 2, h_ => exact absurd h_ (by simp)
                  rintro _ a X36 h1 h2 h3 h4 hS
                  clear BB
                  clear FM2
                  clear FP2
                  replace hS : Below X24.heap.size X24 X36 ∧ (FmI X24.heap.size (j + 1) (updX x j l) (szF N D) (ggS N D) X36) ∧ (X36.ownsRow X24.heap.size 23 1 v158 (j + 1) (lL (updX x j l) (j + 1))) := hS
                  obtain ⟨BB, FM2, FP2⟩ := hS
                  replace t0 := (h3 0 (by decide)).trans t0
                  replace t1 := (h3 1 (by decide)).trans t1
                  replace t7 := (h3 7 (by decide)).trans t7
                  replace t10 := (h3 10 (by decide)).trans t10
                  replace t13 := (h3 13 (by decide)).trans t13
                  replace t14 := (h3 14 (by decide)).trans t14
                  replace t99 := (h3 99 (by decide)).trans t99
                  replace t100 := (h3 100 (by decide)).trans t100
                  replace t101 : a.eval (.tmp 101) = .int .i64 ((j + 1 : Nat) : Int) := h4 1 _ rfl _ rfl
                  replace A := (⟨h1, h2.trans A.2⟩ : a.tmps.size = 238 ∧ a.defers = [])
                  clear h1 h2 h3 h4
                  exact ⟨⟨j + 1, _, updX x j l, ltj, A, t0, t1, t7, t10, t13, t14, t99, t100, t101, BB, FM2, FP2⟩, by show D - (intOf (a.eval (.tmp 101))).toNat < D - (intOf (Act.eval _ (.tmp 101))).toNat; rw [t101, esj]; show D - (j + 1) < D - j; omega⟩
            · rw [decide_eq_false ltj] at t102
              refine wp_cond_false t102 ?_
              refine wp_exit ?_
              first | with_reducible refine exit_in ?_ | with_reducible refine exit_then (exit_in ?_) | with_reducible refine exit_then (exit_then (exit_in ?_)) | refine exit_in ?_ | refine exit_then (exit_in ?_) | refine exit_then (exit_then (exit_in ?_))
              clear t102 esj
              have hjD : j = D := by omega
              rw [hjD] at FM FP t14
              rw [hss] at t14
              clear t99 t100 t101
              have FLL : LLI X25 p D x (szF N D) (ggS N D) := lli_of FM FP (ggS_fits N hD0 hss (by omega))
              clear FM FP hjD ltj hj
              replace Fz32 := (Fz32.on BB)
              replace FXs := (FXs.on BB)
              replace BW := BW.trans (BB.mono BW.size)
              clear BB
              have hpa : paQ (fun j => (szF N D j : Int)) D (fun j => (oF df M N j : Int)) N = true := deal_pa df M hD0 hss (by omega) (by omega)
              obtain ⟨hsm, hDr⟩ := pa_draws hpa
              have hpt : IsPat (szF N D) D N (chD (szF N D) D (oF df M N)) := chD_pat hsm hDr
              refine wp_seq ?_
              refine wp_region_sq (σ := Value × Value) 238 [(0, 161), (1, 162), (2, 163), (3, 160), (4, 164), (5, 165), (6, 166), (7, 18), (8, 19), (9, 20)] (fun j_ s X => match j_ with | 0 => Below X25.heap.size X25 X | 1 => Below X25.heap.size X25 X | 2 => Below X25.heap.size X25 X | 3 => Below X25.heap.size X25 X ∧ (SliceI X s.1 (zl (paE (fun j => (szF N D j : Int)) D (fun j => (oF df M N j : Int)) N) N) (pcF (fun j => (szF N D j : Int)) D (fun j => (oF df M N j : Int)))) ∧ (SliceI X s.2 (zl (paE (fun j => (szF N D j : Int)) D (fun j => (oF df M N j : Int)) N) N) (poF (fun j => (szF N D j : Int)) D (fun j => (oF df M N j : Int)) N)) | 4 => Below X25.heap.size X25 X ∧ (SliceI X s.1 (zl (paE (fun j => (szF N D j : Int)) D (fun j => (oF df M N j : Int)) N) N) (pcF (fun j => (szF N D j : Int)) D (fun j => (oF df M N j : Int)))) ∧ (SliceI X s.2 (zl (paE (fun j => (szF N D j : Int)) D (fun j => (oF df M N j : Int)) N) N) (poF (fun j => (szF N D j : Int)) D (fun j => (oF df M N j : Int)) N)) | 5 => Below X25.heap.size X25 X ∧ (SliceI X s.1 (zl (paE (fun j => (szF N D j : Int)) D (fun j => (oF df M N j : Int)) N) N) (pcF (fun j => (szF N D j : Int)) D (fun j => (oF df M N j : Int)))) ∧ (SliceI X s.2 (zl (paE (fun j => (szF N D j : Int)) D (fun j => (oF df M N j : Int)) N) N) (poF (fun j => (szF N D j : Int)) D (fun j => (oF df M N j : Int)) N)) | 6 => Below X25.heap.size X25 X ∧ (SliceI X s.1 (zl (paE (fun j => (szF N D j : Int)) D (fun j => (oF df M N j : Int)) N) N) (pcF (fun j => (szF N D j : Int)) D (fun j => (oF df M N j : Int)))) ∧ (SliceI X s.2 (zl (paE (fun j => (szF N D j : Int)) D (fun j => (oF df M N j : Int)) N) N) (poF (fun j => (szF N D j : Int)) D (fun j => (oF df M N j : Int)) N)) | 7 => Below X25.heap.size X25 X ∧ (SliceI X s.1 (zl (paE (fun j => (szF N D j : Int)) D (fun j => (oF df M N j : Int)) N) N) (pcF (fun j => (szF N D j : Int)) D (fun j => (oF df M N j : Int)))) ∧ (SliceI X s.2 (zl (paE (fun j => (szF N D j : Int)) D (fun j => (oF df M N j : Int)) N) N) (poF (fun j => (szF N D j : Int)) D (fun j => (oF df M N j : Int)) N)) | 8 => Below X25.heap.size X25 X ∧ (SliceI X s.1 (zl (paE (fun j => (szF N D j : Int)) D (fun j => (oF df M N j : Int)) N) N) (pcF (fun j => (szF N D j : Int)) D (fun j => (oF df M N j : Int)))) ∧ (SliceI X s.2 (zl (paE (fun j => (szF N D j : Int)) D (fun j => (oF df M N j : Int)) N) N) (poF (fun j => (szF N D j : Int)) D (fun j => (oF df M N j : Int)) N)) | 9 => Below X25.heap.size X25 X ∧ (SliceI X s.1 (zl (paE (fun j => (szF N D j : Int)) D (fun j => (oF df M N j : Int)) N) N) (pcF (fun j => (szF N D j : Int)) D (fun j => (oF df M N j : Int)))) ∧ (SliceI X s.2 (zl (paE (fun j => (szF N D j : Int)) D (fun j => (oF df M N j : Int)) N) N) (poF (fun j => (szF N D j : Int)) D (fun j => (oF df M N j : Int)) N)) | _ => Below X25.heap.size X25 X ∧ (SliceI X s.1 (zl (paE (fun j => (szF N D j : Int)) D (fun j => (oF df M N j : Int)) N) N) (pcF (fun j => (szF N D j : Int)) D (fun j => (oF df M N j : Int)))) ∧ (SliceI X s.2 (zl (paE (fun j => (szF N D j : Int)) D (fun j => (oF df M N j : Int)) N) N) (poF (fun j => (szF N D j : Int)) D (fun j => (oF df M N j : Int)) N))) (fun s => fun i_ => match i_ with | 0 => z32 | 1 => .slice (some ⟨g72, 0, none⟩) N N | 2 => .tuple #[s.1, s.2, .int .i64 ((paE (fun j => (szF N D j : Int)) D (fun j => (oF df M N j : Int)) N : Nat) : Int)] | 3 => .tuple #[s.1, s.2, .int .i64 ((paE (fun j => (szF N D j : Int)) D (fun j => (oF df M N j : Int)) N : Nat) : Int)] | 4 => s.1 | 5 => s.2 | 6 => .int .i64 ((paE (fun j => (szF N D j : Int)) D (fun j => (oF df M N j : Int)) N : Nat) : Int) | 7 => s.1 | 8 => s.2 | 9 => .int .i64 ((paE (fun j => (szF N D j : Int)) D (fun j => (oF df M N j : Int)) N : Nat) : Int) | _ => undef) (undef, undef) A.1 (by kernel_rfl) (by decide) (by decide) (Below.refl _ _) ?_ ?_
              · intro i_ hi_ s a X hf hv hn hS
                match i_, hi_ with
                | 0, _ => exact stepV rfl rfl (execMvB rfl ((hf 7 (by decide)).trans t7)) ⟨s, ⟨_, rfl, rfl⟩, hS, fun _ _ => rfl⟩
                | 1, _ => exact stepV rfl rfl (execMvB rfl ((hf 10 (by decide)).trans t10)) ⟨s, ⟨_, rfl, rfl⟩, hS, fun _ _ => rfl⟩
                | 2, _ =>
                  refine stepC rfl rfl (execCall2 Try.func19 (by kernel_rfl) (by kernel_rfl) rfl (hv 0 (by decide) _ rfl _ rfl) (hv 1 (by decide) _ rfl _ rfl)) (ppattern (fun j => (szF N D j : Int)) (fun j => (oF df M N j : Int)) D N _ _ X (Fz32.on hS) (by omega) (FXs.on hS) (by omega)) fun e w' hh => ?_
                  obtain ⟨r0_, r1_, he, hk, hb⟩ := hh
                  refine ⟨_, he, (r0_, r1_), ⟨_, rfl, rfl⟩, ⟨(hS).trans ((hb).mono (hS).size), own_ints (hk.rows 0 (by omega)) (pc_fits (by omega)), own_ints (hk.rows 1 (by omega)) (po_fits ((FXs.on hS)).fits)⟩, fun i hi => ?_⟩
                  match i, hi with
                  | 0, _ => rfl
                  | 1, _ => rfl
                  | n_ + 2, h_ => omega
                | 3, _ => exact stepV rfl rfl (execMvB rfl (hv 2 (by decide) _ rfl _ rfl)) ⟨s, ⟨_, rfl, rfl⟩, hS, fun _ _ => rfl⟩
                | 4, _ => exact stepV rfl rfl (execExtT rfl (hv 3 (by decide) _ rfl _ rfl) rfl) ⟨s, ⟨_, rfl, rfl⟩, hS, fun _ _ => rfl⟩
                | 5, _ => exact stepV rfl rfl (execExtT rfl (hv 3 (by decide) _ rfl _ rfl) rfl) ⟨s, ⟨_, rfl, rfl⟩, hS, fun _ _ => rfl⟩
                | 6, _ => exact stepV rfl rfl (execExtT rfl (hv 3 (by decide) _ rfl _ rfl) rfl) ⟨s, ⟨_, rfl, rfl⟩, hS, fun _ _ => rfl⟩
                | 7, _ => exact stepV rfl rfl (execAsgB rfl (hv 4 (by decide) _ rfl _ rfl)) ⟨s, ⟨_, rfl, rfl⟩, hS, fun _ _ => rfl⟩
                | 8, _ => exact stepV rfl rfl (execAsgB rfl (hv 5 (by decide) _ rfl _ rfl)) ⟨s, ⟨_, rfl, rfl⟩, hS, fun _ _ => rfl⟩
                | 9, _ => exact stepV rfl rfl (execAsgB rfl (hv 6 (by decide) _ rfl _ rfl)) ⟨s, ⟨_, rfl, rfl⟩, hS, fun _ _ => rfl⟩
                | k_ + 10, h_ => exact absurd h_ (by simp)
              rintro ⟨a163, o163⟩ a X37 h1 h2 h3 h4 hS
              replace hS : Below X25.heap.size X25 X37 ∧ (SliceI X37 a163 (zl (paE (fun j => (szF N D j : Int)) D (fun j => (oF df M N j : Int)) N) N) (pcF (fun j => (szF N D j : Int)) D (fun j => (oF df M N j : Int)))) ∧ (SliceI X37 o163 (zl (paE (fun j => (szF N D j : Int)) D (fun j => (oF df M N j : Int)) N) N) (poF (fun j => (szF N D j : Int)) D (fun j => (oF df M N j : Int)) N)) := hS
              obtain ⟨bX, Fa163, Fo163⟩ := hS
              replace t0 := (h3 0 (by decide)).trans t0
              replace t1 := (h3 1 (by decide)).trans t1
              replace t13 := (h3 13 (by decide)).trans t13
              replace t14 := (h3 14 (by decide)).trans t14
              have t18 : a.eval (.tmp 18) = a163 := h4 7 _ rfl _ rfl
              have t20 : a.eval (.tmp 20) = .int .i64 ((paE (fun j => (szF N D j : Int)) D (fun j => (oF df M N j : Int)) N : Nat) : Int) := h4 9 _ rfl _ rfl
              replace Fz32 := (Fz32.on bX)
              replace FXs := (FXs.on bX)
              replace FLL := (FLL.on bX)
              have ZX37 := bX.size
              replace BW := BW.trans (bX.mono BW.size)
              clear bX
              replace A := (⟨h1, h2.trans A.2⟩ : a.tmps.size = 238 ∧ a.defers = [])
              clear h1 h2 h3 h4
              clear t7 t10
              rw [paE_ok hpa] at t20
              replace Fa163 : (SliceI X37 a163 (N) (fun j => (chD (szF N D) D (oF df M N) j : Int))) := (by have h_ := Fa163; rw [paE_ok hpa, zl_ok] at h_; exact h_)
              clear Fo163
              clear FXs
              clear Fz32
              have hwe : weE (fun j => (chD (szF N D) D (oF df M N) j : Int)) N (szF N D) D = 0 := if_pos (stQ_iff.2 ⟨fun i hi => by have := hpt.lt i hi; show 0 ≤ ((chD (szF N D) D (oF df M N) i : Nat) : Int) ∧ ((chD (szF N D) D (oF df M N) i : Nat) : Int) < _; omega, fun j hj => by show ((szF N D j : Nat) : Int) = ((cntC (chD (szF N D) D (oF df M N)) j N : Nat) : Int); rw [hpt.cnt j hj]⟩)
              refine wp_seq ?_
              refine wp_region_sq (σ := Value) 238 [(0, 168), (1, 169), (2, 170), (3, 167), (4, 171), (5, 172), (6, 21), (7, 22)] (fun j_ s X => match j_ with | 0 => Below X37.heap.size X37 X | 1 => Below X37.heap.size X37 X | 2 => Below X37.heap.size X37 X | 3 => Below X37.heap.size X37 X ∧ (SliceI X s (N) (fun j => (poC (szF N D) (chD (szF N D) D (oF df M N)) j : Int))) | 4 => Below X37.heap.size X37 X ∧ (SliceI X s (N) (fun j => (poC (szF N D) (chD (szF N D) D (oF df M N)) j : Int))) | 5 => Below X37.heap.size X37 X ∧ (SliceI X s (N) (fun j => (poC (szF N D) (chD (szF N D) D (oF df M N)) j : Int))) | 6 => Below X37.heap.size X37 X ∧ (SliceI X s (N) (fun j => (poC (szF N D) (chD (szF N D) D (oF df M N)) j : Int))) | 7 => Below X37.heap.size X37 X ∧ (SliceI X s (N) (fun j => (poC (szF N D) (chD (szF N D) D (oF df M N)) j : Int))) | _ => Below X37.heap.size X37 X ∧ (SliceI X s (N) (fun j => (poC (szF N D) (chD (szF N D) D (oF df M N)) j : Int)))) (fun s => fun i_ => match i_ with | 0 => a163 | 1 => p | 2 => .tuple #[s, .int .i64 ((0 : Nat) : Int)] | 3 => .tuple #[s, .int .i64 ((0 : Nat) : Int)] | 4 => s | 5 => .int .i64 ((0 : Nat) : Int) | 6 => s | 7 => .int .i64 ((0 : Nat) : Int) | _ => undef) undef A.1 (by kernel_rfl) (by decide) (by decide) (Below.refl _ _) ?_ ?_
              · intro i_ hi_ s a X hf hv hn hS
                match i_, hi_ with
                | 0, _ => exact stepV rfl rfl (execMvB rfl ((hf 18 (by decide)).trans t18)) ⟨s, ⟨_, rfl, rfl⟩, hS, fun _ _ => rfl⟩
                | 1, _ => exact stepV rfl rfl (execMvB rfl ((hf 13 (by decide)).trans t13)) ⟨s, ⟨_, rfl, rfl⟩, hS, fun _ _ => rfl⟩
                | 2, _ =>
                  refine stepC rfl rfl (execCall2 Try.func28 (by kernel_rfl) (by kernel_rfl) rfl (hv 0 (by decide) _ rfl _ rfl) (hv 1 (by decide) _ rfl _ rfl)) (pweaveI (fun j => (chD (szF N D) D (oF df M N) j : Int)) N D x (szF N D) (ggS N D) _ _ X (Fa163.on hS) (by omega) (FLL.on hS) (by omega)) fun e w' hh => ?_
                  obtain ⟨r0_, he, hk, hb⟩ := hh
                  rw [hwe, zl_ok] at hk
                  rw [hwe] at he
                  refine ⟨_, he, r0_, ⟨_, rfl, rfl⟩, ⟨(hS).trans ((hb).mono (hS).size), own_ints hk (po_bnd hsm hpt (by omega))⟩, fun i hi => ?_⟩
                  match i, hi with
                  | 0, _ => rfl
                  | 1, _ => rfl
                  | n_ + 2, h_ => omega
                | 3, _ => exact stepV rfl rfl (execMvB rfl (hv 2 (by decide) _ rfl _ rfl)) ⟨s, ⟨_, rfl, rfl⟩, hS, fun _ _ => rfl⟩
                | 4, _ => exact stepV rfl rfl (execExtT rfl (hv 3 (by decide) _ rfl _ rfl) rfl) ⟨s, ⟨_, rfl, rfl⟩, hS, fun _ _ => rfl⟩
                | 5, _ => exact stepV rfl rfl (execExtT rfl (hv 3 (by decide) _ rfl _ rfl) rfl) ⟨s, ⟨_, rfl, rfl⟩, hS, fun _ _ => rfl⟩
                | 6, _ => exact stepV rfl rfl (execAsgB rfl (hv 4 (by decide) _ rfl _ rfl)) ⟨s, ⟨_, rfl, rfl⟩, hS, fun _ _ => rfl⟩
                | 7, _ => exact stepV rfl rfl (execAsgB rfl (hv 5 (by decide) _ rfl _ rfl)) ⟨s, ⟨_, rfl, rfl⟩, hS, fun _ _ => rfl⟩
                | k_ + 8, h_ => exact absurd h_ (by simp)
              rintro w170 a X38 h1 h2 h3 h4 hS
              replace hS : Below X37.heap.size X37 X38 ∧ (SliceI X38 w170 (N) (fun j => (poC (szF N D) (chD (szF N D) D (oF df M N)) j : Int))) := hS
              obtain ⟨bX, Fw170⟩ := hS
              replace t0 := (h3 0 (by decide)).trans t0
              replace t1 := (h3 1 (by decide)).trans t1
              replace t14 := (h3 14 (by decide)).trans t14
              replace t18 := (h3 18 (by decide)).trans t18
              replace t20 := (h3 20 (by decide)).trans t20
              have t21 : a.eval (.tmp 21) = w170 := h4 6 _ rfl _ rfl
              have t22 : a.eval (.tmp 22) = .int .i64 ((0 : Nat) : Int) := h4 7 _ rfl _ rfl
              replace FLL := (FLL.on bX)
              replace Fa163 := (Fa163.on bX)
              have ZX38 := bX.size
              replace BW := BW.trans (bX.mono BW.size)
              clear bX
              replace A := (⟨h1, h2.trans A.2⟩ : a.tmps.size = 238 ∧ a.defers = [])
              clear h1 h2 h3 h4
              clear t13
              clear FLL
              refine wp_seq ?_
              refine wp_seq ?_
              refine wp_region_sq (σ := Unit) 238 [(0, 173), (1, 174), (2, 175), (3, 176), (4, 177), (5, 178), (6, 179), (7, 180), (8, 181), (9, 182), (10, 183), (11, 184), (12, 185), (13, 186), (14, 187), (15, 188), (16, 189)] (fun j_ s X => match j_ with | 0 => Below X38.heap.size X38 X | 1 => Below X38.heap.size X38 X | 2 => Below X38.heap.size X38 X | 3 => Below X38.heap.size X38 X | 4 => Below X38.heap.size X38 X | 5 => Below X38.heap.size X38 X | 6 => Below X38.heap.size X38 X | 7 => Below X38.heap.size X38 X | 8 => Below X38.heap.size X38 X | 9 => Below X38.heap.size X38 X | 10 => Below X38.heap.size X38 X | 11 => Below X38.heap.size X38 X | 12 => Below X38.heap.size X38 X | 13 => Below X38.heap.size X38 X | 14 => Below X38.heap.size X38 X | 15 => Below X38.heap.size X38 X | 16 => Below X38.heap.size X38 X | _ => Below X38.heap.size X38 X) (fun s => fun i_ => match i_ with | 0 => .int .i64 ((N : Nat) : Int) | 1 => .int .i64 ((N : Nat) : Int) | 2 => .bool false | 3 => .bool false | 4 => .int .i64 ((0 : Nat) : Int) | 5 => .bool false | 6 => .bool false | 7 => .bool false | 8 => .int .i64 ((0 : Nat) : Int) | 9 => .bool false | 10 => .bool false | 11 => .bool false | 12 => w170 | 13 => .int .i64 ((N : Nat) : Int) | 14 => .int .i64 ((N : Nat) : Int) | 15 => .bool false | 16 => .bool false | _ => undef) () A.1 (by kernel_rfl) (by decide) (by decide) (Below.refl _ _) ?_ ?_
              · intro i_ hi_ s a X hf hv hn hS
                match i_, hi_ with
                | 0, _ => exact stepV rfl rfl (execMvB rfl ((hf 14 (by decide)).trans t14)) ⟨s, ⟨_, rfl, rfl⟩, hS, fun _ _ => rfl⟩
                | 1, _ => exact stepV rfl rfl (execMvB rfl ((hf 0 (by decide)).trans t0)) ⟨s, ⟨_, rfl, rfl⟩, hS, fun _ _ => rfl⟩
                | 2, _ => exact stepV rfl rfl (execDec (execNeN (p := N) (q := N) rfl (hv 0 (by decide) _ rfl _ rfl) (hv 1 (by decide) _ rfl _ rfl)) (decide_eq_false (by omega))) ⟨s, ⟨_, rfl, rfl⟩, hS, fun _ _ => rfl⟩
                | 3, _ => exact stepV rfl rfl (execMvB rfl (hv 2 (by decide) _ rfl _ rfl)) ⟨s, ⟨_, rfl, rfl⟩, hS, fun _ _ => rfl⟩
                | 4, _ => exact stepV rfl (wantedOf rfl (yieldedAt rfl rfl (show a.eval (.tmp 176) = .bool false from (hv 3 (by decide) _ rfl _ rfl)))) (execMvB rfl ((hf 20 (by decide)).trans t20)) ⟨s, ⟨_, rfl, rfl⟩, hS, fun _ _ => rfl⟩
                | 5, _ => exact stepV rfl (wantedOf rfl (yieldedAt rfl rfl (show a.eval (.tmp 176) = .bool false from (hv 3 (by decide) _ rfl _ rfl)))) (execDec (execNeE (p := 0) (q := 0) rfl (hv 4 (by decide) _ rfl _ rfl) rfl) (decide_eq_false (by decide))) ⟨s, ⟨_, rfl, rfl⟩, hS, fun _ _ => rfl⟩
                | 6, _ => exact stepV rfl rfl (execPickF rfl (hv 3 (by decide) _ rfl _ rfl) (hv 5 (by decide) _ rfl _ rfl)) ⟨s, ⟨_, rfl, rfl⟩, hS, fun _ _ => rfl⟩
                | 7, _ => exact stepV rfl rfl (execMvB rfl (hv 6 (by decide) _ rfl _ rfl)) ⟨s, ⟨_, rfl, rfl⟩, hS, fun _ _ => rfl⟩
                | 8, _ => exact stepV rfl (wantedOf rfl (yieldedAt rfl rfl (show a.eval (.tmp 180) = .bool false from (hv 7 (by decide) _ rfl _ rfl)))) (execMvB rfl ((hf 22 (by decide)).trans t22)) ⟨s, ⟨_, rfl, rfl⟩, hS, fun _ _ => rfl⟩
                | 9, _ => exact stepV rfl (wantedOf rfl (yieldedAt rfl rfl (show a.eval (.tmp 180) = .bool false from (hv 7 (by decide) _ rfl _ rfl)))) (execDec (execNeE (p := 0) (q := 0) rfl (hv 8 (by decide) _ rfl _ rfl) rfl) (decide_eq_false (by decide))) ⟨s, ⟨_, rfl, rfl⟩, hS, fun _ _ => rfl⟩
                | 10, _ => exact stepV rfl rfl (execPickF rfl (hv 7 (by decide) _ rfl _ rfl) (hv 9 (by decide) _ rfl _ rfl)) ⟨s, ⟨_, rfl, rfl⟩, hS, fun _ _ => rfl⟩
                | 11, _ => exact stepV rfl rfl (execMvB rfl (hv 10 (by decide) _ rfl _ rfl)) ⟨s, ⟨_, rfl, rfl⟩, hS, fun _ _ => rfl⟩
                | 12, _ => exact stepV rfl (wantedOf rfl (yieldedAt rfl rfl (show a.eval (.tmp 184) = .bool false from (hv 11 (by decide) _ rfl _ rfl)))) (execMvB rfl ((hf 21 (by decide)).trans t21)) ⟨s, ⟨_, rfl, rfl⟩, hS, fun _ _ => rfl⟩
                | 13, _ => exact stepV rfl (wantedOf rfl (yieldedAt rfl rfl (show a.eval (.tmp 184) = .bool false from (hv 11 (by decide) _ rfl _ rfl)))) (execLenI (len := N) rfl (hv 12 (by decide) _ rfl _ rfl) ((Fw170.on hS)).shp) ⟨s, ⟨_, rfl, rfl⟩, hS, fun _ _ => rfl⟩
                | 14, _ => exact stepV rfl (wantedOf rfl (yieldedAt rfl rfl (show a.eval (.tmp 184) = .bool false from (hv 11 (by decide) _ rfl _ rfl)))) (execMvB rfl ((hf 0 (by decide)).trans t0)) ⟨s, ⟨_, rfl, rfl⟩, hS, fun _ _ => rfl⟩
                | 15, _ => exact stepV rfl (wantedOf rfl (yieldedAt rfl rfl (show a.eval (.tmp 184) = .bool false from (hv 11 (by decide) _ rfl _ rfl)))) (execDec (execNeN (p := N) (q := N) rfl (hv 13 (by decide) _ rfl _ rfl) (hv 14 (by decide) _ rfl _ rfl)) (decide_eq_false (by omega))) ⟨s, ⟨_, rfl, rfl⟩, hS, fun _ _ => rfl⟩
                | 16, _ => exact stepV rfl rfl (execPickF rfl (hv 11 (by decide) _ rfl _ rfl) (hv 15 (by decide) _ rfl _ rfl)) ⟨s, ⟨_, rfl, rfl⟩, hS, fun _ _ => rfl⟩
                | k_ + 17, h_ => exact absurd h_ (by simp)
              rintro _ a X39 h1 h2 h3 h4 hS
              replace hS : Below X38.heap.size X38 X39 := hS
              have bX := hS
              clear hS
              replace t0 := (h3 0 (by decide)).trans t0
              replace t1 := (h3 1 (by decide)).trans t1
              replace t18 := (h3 18 (by decide)).trans t18
              replace t21 := (h3 21 (by decide)).trans t21
              have t189 : a.eval (.tmp 189) = .bool false := h4 16 _ rfl _ rfl
              replace Fa163 := (Fa163.on bX)
              replace Fw170 := (Fw170.on bX)
              have ZX39 := bX.size
              replace BW := BW.trans (bX.mono BW.size)
              clear bX
              replace A := (⟨h1, h2.trans A.2⟩ : a.tmps.size = 238 ∧ a.defers = [])
              clear h1 h2 h3 h4
              clear t14 t20 t22
              refine wp_cond_false t189 ?_
              refine wp_skip ?_
              clear t189
              have BB : Below X39.heap.size X39 X39 := Below.refl _ _
              refine wp_seq ?_
              refine wp_region_sq (σ := Nat) 238 [(0, 190), (1, 191), (2, 23)] (fun j_ s X => match j_ with | 0 => Below X39.heap.size X39 X | 1 => Below X39.heap.size X39 X | 2 => Below X39.heap.size X39 X ∧ (X.ownsRow X39.heap.size 4 1 (.slice (some ⟨s, 0, none⟩) N N) (N) (boolsL (N) (snB (szF N D) (chD (szF N D) D (oF df M N)) 0))) ∧ (X39.heap.size ≤ s) | _ => Below X39.heap.size X39 X ∧ (X.ownsRow X39.heap.size 4 1 (.slice (some ⟨s, 0, none⟩) N N) (N) (boolsL (N) (snB (szF N D) (chD (szF N D) D (oF df M N)) 0))) ∧ (X39.heap.size ≤ s)) (fun s => fun i_ => match i_ with | 0 => .int .i64 ((N : Nat) : Int) | 1 => .slice (some ⟨s, 0, none⟩) N N | 2 => .slice (some ⟨s, 0, none⟩) N N | _ => undef) 0 A.1 (by kernel_rfl) (by decide) (by decide) (BB) ?_ ?_
              · intro i_ hi_ s a X hf hv hn hS
                match i_, hi_ with
                | 0, _ => exact stepV rfl rfl (execMvB rfl ((hf 0 (by decide)).trans t0)) ⟨s, ⟨_, rfl, rfl⟩, hS, fun _ _ => rfl⟩
                | 1, _ =>
                  refine stepV rfl rfl (execMkBl rfl (hv 0 (by decide) _ rfl _ rfl) (hv 0 (by decide) _ rfl _ rfl) (by omega)) ⟨X.heap.size, ⟨_, rfl, rfl⟩, ⟨(hS).trans (((belNew X _)).mono (hS).size), ownD_base (own_mkBl X N _ (by omega) (fun _ _ => rfl)) (hS).size, (hS).size⟩, fun i hi => ?_⟩
                  match i, hi with
                  | 0, _ => rfl
                  | n_ + 1, h_ => omega
                | 2, _ => exact stepV rfl rfl (execAsgB rfl (hv 1 (by decide) _ rfl _ rfl)) ⟨s, ⟨_, rfl, rfl⟩, hS, fun _ _ => rfl⟩
                | k_ + 3, h_ => exact absurd h_ (by simp)
              rintro g191 a X41 h1 h2 h3 h4 hS
              clear BB
              replace hS : Below X39.heap.size X39 X41 ∧ (X41.ownsRow X39.heap.size 4 1 (.slice (some ⟨g191, 0, none⟩) N N) (N) (boolsL (N) (snB (szF N D) (chD (szF N D) D (oF df M N)) 0))) ∧ (X39.heap.size ≤ g191) := hS
              obtain ⟨BB, FB, FBg⟩ := hS
              replace t0 := (h3 0 (by decide)).trans t0
              replace t1 := (h3 1 (by decide)).trans t1
              replace t18 := (h3 18 (by decide)).trans t18
              replace t21 := (h3 21 (by decide)).trans t21
              have t23 : a.eval (.tmp 23) = .slice (some ⟨g191, 0, none⟩) N N := h4 2 _ rfl _ rfl
              replace A := (⟨h1, h2.trans A.2⟩ : a.tmps.size = 238 ∧ a.defers = [])
              clear h1 h2 h3 h4
              refine wp_seq ?_
              refine wp_region_sq (σ := Nat) 238 [(0, 192), (1, 193), (2, 24)] (fun j_ s X => match j_ with | 0 => Below X39.heap.size X39 X ∧ (X.ownsRow X39.heap.size 4 1 (.slice (some ⟨g191, 0, none⟩) N N) (N) (boolsL (N) (snB (szF N D) (chD (szF N D) D (oF df M N)) 0))) | 1 => Below X39.heap.size X39 X ∧ (X.ownsRow X39.heap.size 4 1 (.slice (some ⟨g191, 0, none⟩) N N) (N) (boolsL (N) (snB (szF N D) (chD (szF N D) D (oF df M N)) 0))) | 2 => Below X39.heap.size X39 X ∧ (X.ownsRow X39.heap.size 4 1 (.slice (some ⟨g191, 0, none⟩) N N) (N) (boolsL (N) (snB (szF N D) (chD (szF N D) D (oF df M N)) 0))) ∧ (X.ownsRow X39.heap.size 3 1 (.slice (some ⟨s, 0, none⟩) D D) (D) (intsL (D) (fun j => (laN (szF N D) (chD (szF N D) D (oF df M N)) 0 j : Int)))) ∧ (X39.heap.size ≤ s) | _ => Below X39.heap.size X39 X ∧ (X.ownsRow X39.heap.size 4 1 (.slice (some ⟨g191, 0, none⟩) N N) (N) (boolsL (N) (snB (szF N D) (chD (szF N D) D (oF df M N)) 0))) ∧ (X.ownsRow X39.heap.size 3 1 (.slice (some ⟨s, 0, none⟩) D D) (D) (intsL (D) (fun j => (laN (szF N D) (chD (szF N D) D (oF df M N)) 0 j : Int)))) ∧ (X39.heap.size ≤ s)) (fun s => fun i_ => match i_ with | 0 => .int .i64 ((D : Nat) : Int) | 1 => .slice (some ⟨s, 0, none⟩) D D | 2 => .slice (some ⟨s, 0, none⟩) D D | _ => undef) 0 A.1 (by kernel_rfl) (by decide) (by decide) ⟨BB, FB⟩ ?_ ?_
              · intro i_ hi_ s a X hf hv hn hS
                match i_, hi_ with
                | 0, _ => exact stepV rfl rfl (execMvB rfl ((hf 1 (by decide)).trans t1)) ⟨s, ⟨_, rfl, rfl⟩, hS, fun _ _ => rfl⟩
                | 1, _ =>
                  refine stepV rfl rfl (execMkN rfl (hv 0 (by decide) _ rfl _ rfl) (hv 0 (by decide) _ rfl _ rfl) (by omega)) ⟨X.heap.size, ⟨_, rfl, rfl⟩, ⟨(hS.1).trans (((belNew X _)).mono (hS.1).size), (ownD_below hS.2 (belNew X _)), ownD_base (own_mkZ X D _ (by omega) (fun _ _ => rfl)) (hS.1).size, (hS.1).size⟩, fun i hi => ?_⟩
                  match i, hi with
                  | 0, _ => rfl
                  | n_ + 1, h_ => omega
                | 2, _ => exact stepV rfl rfl (execAsgB rfl (hv 1 (by decide) _ rfl _ rfl)) ⟨s, ⟨_, rfl, rfl⟩, hS, fun _ _ => rfl⟩
                | k_ + 3, h_ => exact absurd h_ (by simp)
              rintro g193 a X42 h1 h2 h3 h4 hS
              clear BB
              clear FB
              replace hS : Below X39.heap.size X39 X42 ∧ (X42.ownsRow X39.heap.size 4 1 (.slice (some ⟨g191, 0, none⟩) N N) (N) (boolsL (N) (snB (szF N D) (chD (szF N D) D (oF df M N)) 0))) ∧ (X42.ownsRow X39.heap.size 3 1 (.slice (some ⟨g193, 0, none⟩) D D) (D) (intsL (D) (fun j => (laN (szF N D) (chD (szF N D) D (oF df M N)) 0 j : Int)))) ∧ (X39.heap.size ≤ g193) := hS
              obtain ⟨BB, FB, FA, FAg⟩ := hS
              replace t0 := (h3 0 (by decide)).trans t0
              replace t18 := (h3 18 (by decide)).trans t18
              replace t21 := (h3 21 (by decide)).trans t21
              replace t23 := (h3 23 (by decide)).trans t23
              have t24 : a.eval (.tmp 24) = .slice (some ⟨g193, 0, none⟩) D D := h4 2 _ rfl _ rfl
              replace A := (⟨h1, h2.trans A.2⟩ : a.tmps.size = 238 ∧ a.defers = [])
              clear h1 h2 h3 h4
              clear t1
              refine wp_seq ?_
              refine wp_seq ?_
              refine wp_region_sq (σ := Unit) 238 [(0, 194), (1, 195), (2, 196)] (fun j_ s X => match j_ with | 0 => Below X39.heap.size X39 X ∧ (X.ownsRow X39.heap.size 4 1 (.slice (some ⟨g191, 0, none⟩) N N) (N) (boolsL (N) (snB (szF N D) (chD (szF N D) D (oF df M N)) 0))) ∧ (X.ownsRow X39.heap.size 3 1 (.slice (some ⟨g193, 0, none⟩) D D) (D) (intsL (D) (fun j => (laN (szF N D) (chD (szF N D) D (oF df M N)) 0 j : Int)))) | 1 => Below X39.heap.size X39 X ∧ (X.ownsRow X39.heap.size 4 1 (.slice (some ⟨g191, 0, none⟩) N N) (N) (boolsL (N) (snB (szF N D) (chD (szF N D) D (oF df M N)) 0))) ∧ (X.ownsRow X39.heap.size 3 1 (.slice (some ⟨g193, 0, none⟩) D D) (D) (intsL (D) (fun j => (laN (szF N D) (chD (szF N D) D (oF df M N)) 0 j : Int)))) | 2 => Below X39.heap.size X39 X ∧ (X.ownsRow X39.heap.size 4 1 (.slice (some ⟨g191, 0, none⟩) N N) (N) (boolsL (N) (snB (szF N D) (chD (szF N D) D (oF df M N)) 0))) ∧ (X.ownsRow X39.heap.size 3 1 (.slice (some ⟨g193, 0, none⟩) D D) (D) (intsL (D) (fun j => (laN (szF N D) (chD (szF N D) D (oF df M N)) 0 j : Int)))) | _ => Below X39.heap.size X39 X ∧ (X.ownsRow X39.heap.size 4 1 (.slice (some ⟨g191, 0, none⟩) N N) (N) (boolsL (N) (snB (szF N D) (chD (szF N D) D (oF df M N)) 0))) ∧ (X.ownsRow X39.heap.size 3 1 (.slice (some ⟨g193, 0, none⟩) D D) (D) (intsL (D) (fun j => (laN (szF N D) (chD (szF N D) D (oF df M N)) 0 j : Int))))) (fun s => fun i_ => match i_ with | 0 => w170 | 1 => .int .i64 ((N : Nat) : Int) | 2 => .int .i64 ((0 : Nat) : Int) | _ => undef) () A.1 (by kernel_rfl) (by decide) (by decide) ⟨BB, FB, FA⟩ ?_ ?_
              · intro i_ hi_ s a X hf hv hn hS
                match i_, hi_ with
                | 0, _ => exact stepV rfl rfl (execMvB rfl ((hf 21 (by decide)).trans t21)) ⟨s, ⟨_, rfl, rfl⟩, hS, fun _ _ => rfl⟩
                | 1, _ => exact stepV rfl rfl (execLenI (len := N) rfl (hv 0 (by decide) _ rfl _ rfl) ((Fw170.on hS.1)).shp) ⟨s, ⟨_, rfl, rfl⟩, hS, fun _ _ => rfl⟩
                | 2, _ => exact stepV rfl rfl (execMvB rfl rfl) ⟨s, ⟨_, rfl, rfl⟩, hS, fun _ _ => rfl⟩
                | k_ + 3, h_ => exact absurd h_ (by simp)
              rintro _ a X43 h1 h2 h3 h4 hS
              clear BB
              clear FB
              clear FA
              replace hS : Below X39.heap.size X39 X43 ∧ (X43.ownsRow X39.heap.size 4 1 (.slice (some ⟨g191, 0, none⟩) N N) (N) (boolsL (N) (snB (szF N D) (chD (szF N D) D (oF df M N)) 0))) ∧ (X43.ownsRow X39.heap.size 3 1 (.slice (some ⟨g193, 0, none⟩) D D) (D) (intsL (D) (fun j => (laN (szF N D) (chD (szF N D) D (oF df M N)) 0 j : Int)))) := hS
              obtain ⟨BB, FB, FA⟩ := hS
              replace t0 := (h3 0 (by decide)).trans t0
              replace t18 := (h3 18 (by decide)).trans t18
              replace t23 := (h3 23 (by decide)).trans t23
              replace t24 := (h3 24 (by decide)).trans t24
              have t194 : a.eval (.tmp 194) = w170 := h4 0 _ rfl _ rfl
              have t195 : a.eval (.tmp 195) = .int .i64 ((N : Nat) : Int) := h4 1 _ rfl _ rfl
              have t196 : a.eval (.tmp 196) = .int .i64 ((0 : Nat) : Int) := h4 2 _ rfl _ rfl
              replace A := (⟨h1, h2.trans A.2⟩ : a.tmps.size = 238 ∧ a.defers = [])
              clear h1 h2 h3 h4
              clear t21
              refine wp_block ?_
              refine wp_loop (fun a W => ∃ (i : Nat), i ≤ N ∧ (a.tmps.size = 238 ∧ a.defers = []) ∧ a.eval (.tmp 0) = .int .i64 ((N : Nat) : Int) ∧ a.eval (.tmp 18) = a163 ∧ a.eval (.tmp 23) = .slice (some ⟨g191, 0, none⟩) N N ∧ a.eval (.tmp 24) = .slice (some ⟨g193, 0, none⟩) D D ∧ a.eval (.tmp 194) = w170 ∧ a.eval (.tmp 195) = .int .i64 ((N : Nat) : Int) ∧ a.eval (.tmp 196) = .int .i64 ((i : Nat) : Int) ∧ Below X39.heap.size X39 W ∧ (W.ownsRow X39.heap.size 4 1 (.slice (some ⟨g191, 0, none⟩) N N) (N) (boolsL (N) (snB (szF N D) (chD (szF N D) D (oF df M N)) i))) ∧ (W.ownsRow X39.heap.size 3 1 (.slice (some ⟨g193, 0, none⟩) D D) (D) (intsL (D) (fun j => (laN (szF N D) (chD (szF N D) D (oF df M N)) i j : Int))))) (fun a _ => N - (intOf (a.eval (.tmp 196))).toNat) ⟨0, Nat.zero_le _, A, t0, t18, t23, t24, t194, t195, t196, BB, FB, FA⟩ ?_
              clear A t0 t18 t23 t24 t194 t195 t196 BB FB FA a
              rintro a XL44 ⟨i, hi, A, t0, t18, t23, t24, t194, t195, t196, BB, FB, FA⟩
              have esi := t196
              refine wp_seq ?_
              refine wp_region_sq (σ := Unit) 238 [(0, 197)] (fun j_ s X => match j_ with | 0 => Below X39.heap.size X39 X ∧ (X.ownsRow X39.heap.size 4 1 (.slice (some ⟨g191, 0, none⟩) N N) (N) (boolsL (N) (snB (szF N D) (chD (szF N D) D (oF df M N)) i))) ∧ (X.ownsRow X39.heap.size 3 1 (.slice (some ⟨g193, 0, none⟩) D D) (D) (intsL (D) (fun j => (laN (szF N D) (chD (szF N D) D (oF df M N)) i j : Int)))) | _ => Below X39.heap.size X39 X ∧ (X.ownsRow X39.heap.size 4 1 (.slice (some ⟨g191, 0, none⟩) N N) (N) (boolsL (N) (snB (szF N D) (chD (szF N D) D (oF df M N)) i))) ∧ (X.ownsRow X39.heap.size 3 1 (.slice (some ⟨g193, 0, none⟩) D D) (D) (intsL (D) (fun j => (laN (szF N D) (chD (szF N D) D (oF df M N)) i j : Int))))) (fun s => fun i_ => match i_ with | 0 => .bool (decide (i < N)) | _ => undef) () A.1 (by kernel_rfl) (by decide) (by decide) ⟨BB, FB, FA⟩ ?_ ?_
              · intro i_ hi_ s a X hf hv hn hS
                match i_, hi_ with
                | 0, _ => exact stepV rfl rfl (execLtW (p := i) (q := N) rfl ((hf 196 (by decide)).trans t196) ((hf 195 (by decide)).trans t195)) ⟨s, ⟨_, rfl, rfl⟩, hS, fun _ _ => rfl⟩
                | k_ + 1, h_ => exact absurd h_ (by simp)
              rintro _ a X44 h1 h2 h3 h4 hS
              clear BB
              clear FB
              clear FA
              replace hS : Below X39.heap.size X39 X44 ∧ (X44.ownsRow X39.heap.size 4 1 (.slice (some ⟨g191, 0, none⟩) N N) (N) (boolsL (N) (snB (szF N D) (chD (szF N D) D (oF df M N)) i))) ∧ (X44.ownsRow X39.heap.size 3 1 (.slice (some ⟨g193, 0, none⟩) D D) (D) (intsL (D) (fun j => (laN (szF N D) (chD (szF N D) D (oF df M N)) i j : Int)))) := hS
              obtain ⟨BB, FB, FA⟩ := hS
              replace t0 := (h3 0 (by decide)).trans t0
              replace t18 := (h3 18 (by decide)).trans t18
              replace t23 := (h3 23 (by decide)).trans t23
              replace t24 := (h3 24 (by decide)).trans t24
              replace t194 := (h3 194 (by decide)).trans t194
              replace t195 := (h3 195 (by decide)).trans t195
              replace t196 := (h3 196 (by decide)).trans t196
              have t197 : a.eval (.tmp 197) = .bool (decide (i < N)) := h4 0 _ rfl _ rfl
              replace A := (⟨h1, h2.trans A.2⟩ : a.tmps.size = 238 ∧ a.defers = [])
              clear h1 h2 h3 h4
              refine wp_seq ?_
              by_cases lti : i < N
              · rw [decide_eq_true lti] at t197
                refine wp_cond_true t197 ?_
                refine wp_skip ?_
                clear t197
                refine wp_seq ?_
                refine wp_block ?_
                obtain ⟨wwb, wwo, wwc, eww, hwwb, hwwc⟩ := open_sl Fw170 (by omega)
                have cww : ∀ k, k < N → ∀ X, Below X39.heap.size X39 X → X.cell? ⟨wwb, wwo + k, none⟩ = some (.int .i64 ((fun j => (poC (szF N D) (chD (szF N D) D (oF df M N)) j : Int)) k)) := fun k hk X hX => by rw [cell_below hX hwwb]; exact hwwc k hk
                obtain ⟨aab, aao, aac, eaa, haab, haac⟩ := open_sl Fa163 (by omega)
                have caa : ∀ k, k < N → ∀ X, Below X39.heap.size X39 X → X.cell? ⟨aab, aao + k, none⟩ = some (.int .i64 ((fun j => (chD (szF N D) D (oF df M N) j : Int)) k)) := fun k hk X hX => by rw [cell_below hX haab]; exact haac k hk
                obtain ⟨w, ew⟩ : ∃ w, poC (szF N D) (chD (szF N D) D (oF df M N)) i = w := ⟨_, rfl⟩
                obtain ⟨c, ec⟩ : ∃ c, chD (szF N D) D (oF df M N) i = c := ⟨_, rfl⟩
                have hwN : w < N := by rw [← ew]; exact poC_lt hsm hpt lti
                have hcD : c < D := by rw [← ec]; exact hpt.lt i lti
                have hsn : snB (szF N D) (chD (szF N D) D (oF df M N)) i w = false := by rw [← ew]; exact sn_no hpt lti
                obtain ⟨y, ey⟩ : ∃ y, laN (szF N D) (chD (szF N D) D (oF df M N)) i c = y := ⟨_, rfl⟩
                have hla : y ≤ w := by rw [← ey, ← ew, ← ec]; exact la_le i
                refine wp_seq ?_
                refine wp_region_sq (σ := Unit) 238 [(0, 198), (1, 199), (2, 200), (3, 25), (4, 26)] (fun j_ s X => match j_ with | 0 => Below X39.heap.size X39 X ∧ (X.ownsRow X39.heap.size 4 1 (.slice (some ⟨g191, 0, none⟩) N N) (N) (boolsL (N) (snB (szF N D) (chD (szF N D) D (oF df M N)) i))) ∧ (X.ownsRow X39.heap.size 3 1 (.slice (some ⟨g193, 0, none⟩) D D) (D) (intsL (D) (fun j => (laN (szF N D) (chD (szF N D) D (oF df M N)) i j : Int)))) | 1 => Below X39.heap.size X39 X ∧ (X.ownsRow X39.heap.size 4 1 (.slice (some ⟨g191, 0, none⟩) N N) (N) (boolsL (N) (snB (szF N D) (chD (szF N D) D (oF df M N)) i))) ∧ (X.ownsRow X39.heap.size 3 1 (.slice (some ⟨g193, 0, none⟩) D D) (D) (intsL (D) (fun j => (laN (szF N D) (chD (szF N D) D (oF df M N)) i j : Int)))) | 2 => Below X39.heap.size X39 X ∧ (X.ownsRow X39.heap.size 4 1 (.slice (some ⟨g191, 0, none⟩) N N) (N) (boolsL (N) (snB (szF N D) (chD (szF N D) D (oF df M N)) i))) ∧ (X.ownsRow X39.heap.size 3 1 (.slice (some ⟨g193, 0, none⟩) D D) (D) (intsL (D) (fun j => (laN (szF N D) (chD (szF N D) D (oF df M N)) i j : Int)))) | 3 => Below X39.heap.size X39 X ∧ (X.ownsRow X39.heap.size 4 1 (.slice (some ⟨g191, 0, none⟩) N N) (N) (boolsL (N) (snB (szF N D) (chD (szF N D) D (oF df M N)) i))) ∧ (X.ownsRow X39.heap.size 3 1 (.slice (some ⟨g193, 0, none⟩) D D) (D) (intsL (D) (fun j => (laN (szF N D) (chD (szF N D) D (oF df M N)) i j : Int)))) | 4 => Below X39.heap.size X39 X ∧ (X.ownsRow X39.heap.size 4 1 (.slice (some ⟨g191, 0, none⟩) N N) (N) (boolsL (N) (snB (szF N D) (chD (szF N D) D (oF df M N)) i))) ∧ (X.ownsRow X39.heap.size 3 1 (.slice (some ⟨g193, 0, none⟩) D D) (D) (intsL (D) (fun j => (laN (szF N D) (chD (szF N D) D (oF df M N)) i j : Int)))) | _ => Below X39.heap.size X39 X ∧ (X.ownsRow X39.heap.size 4 1 (.slice (some ⟨g191, 0, none⟩) N N) (N) (boolsL (N) (snB (szF N D) (chD (szF N D) D (oF df M N)) i))) ∧ (X.ownsRow X39.heap.size 3 1 (.slice (some ⟨g193, 0, none⟩) D D) (D) (intsL (D) (fun j => (laN (szF N D) (chD (szF N D) D (oF df M N)) i j : Int))))) (fun s => fun i_ => match i_ with | 0 => .int .i64 ((i : Nat) : Int) | 1 => .pointer (some ⟨wwb, wwo + i, none⟩) | 2 => .int .i64 ((w : Nat) : Int) | 3 => .int .i64 ((i : Nat) : Int) | 4 => .int .i64 ((w : Nat) : Int) | _ => undef) () A.1 (by kernel_rfl) (by decide) (by decide) ⟨BB, FB, FA⟩ ?_ ?_
                · intro i_ hi_ s a X hf hv hn hS
                  match i_, hi_ with
                  | 0, _ => exact stepV rfl rfl (execMvB rfl ((hf 196 (by decide)).trans t196)) ⟨s, ⟨_, rfl, rfl⟩, hS, fun _ _ => rfl⟩
                  | 1, _ => exact stepV rfl rfl (execIdxN (k := i) rfl (((hf 194 (by decide)).trans t194).trans eww) ((hf 196 (by decide)).trans t196) lti) ⟨s, ⟨_, rfl, rfl⟩, hS, fun _ _ => rfl⟩
                  | 2, _ => exact stepV rfl rfl (execLd3 rfl (hv 1 (by decide) _ rfl _ rfl) ((cww i lti X hS.1).trans (by rw [← ew]))) ⟨s, ⟨_, rfl, rfl⟩, hS, fun _ _ => rfl⟩
                  | 3, _ => exact stepV rfl rfl (execAsgB rfl (hv 0 (by decide) _ rfl _ rfl)) ⟨s, ⟨_, rfl, rfl⟩, hS, fun _ _ => rfl⟩
                  | 4, _ => exact stepV rfl rfl (execAsgB rfl (hv 2 (by decide) _ rfl _ rfl)) ⟨s, ⟨_, rfl, rfl⟩, hS, fun _ _ => rfl⟩
                  | k_ + 5, h_ => exact absurd h_ (by simp)
                rintro _ a X45 h1 h2 h3 h4 hS
                clear BB
                clear FB
                clear FA
                replace hS : Below X39.heap.size X39 X45 ∧ (X45.ownsRow X39.heap.size 4 1 (.slice (some ⟨g191, 0, none⟩) N N) (N) (boolsL (N) (snB (szF N D) (chD (szF N D) D (oF df M N)) i))) ∧ (X45.ownsRow X39.heap.size 3 1 (.slice (some ⟨g193, 0, none⟩) D D) (D) (intsL (D) (fun j => (laN (szF N D) (chD (szF N D) D (oF df M N)) i j : Int)))) := hS
                obtain ⟨BB, FB, FA⟩ := hS
                replace t0 := (h3 0 (by decide)).trans t0
                replace t18 := (h3 18 (by decide)).trans t18
                replace t23 := (h3 23 (by decide)).trans t23
                replace t24 := (h3 24 (by decide)).trans t24
                replace t194 := (h3 194 (by decide)).trans t194
                replace t195 := (h3 195 (by decide)).trans t195
                replace t196 := (h3 196 (by decide)).trans t196
                have t25 : a.eval (.tmp 25) = .int .i64 ((i : Nat) : Int) := h4 3 _ rfl _ rfl
                have t26 : a.eval (.tmp 26) = .int .i64 ((w : Nat) : Int) := h4 4 _ rfl _ rfl
                replace A := (⟨h1, h2.trans A.2⟩ : a.tmps.size = 238 ∧ a.defers = [])
                clear h1 h2 h3 h4
                refine wp_seq ?_
                refine wp_seq ?_
                refine wp_region_sq (σ := Unit) 238 [(0, 201), (1, 202), (2, 203), (3, 204), (4, 205), (5, 206), (6, 207), (7, 208), (8, 209), (9, 210), (10, 211), (11, 212), (12, 213), (13, 214), (14, 215), (15, 216), (16, 217), (17, 218), (18, 219), (19, 220), (20, 221), (21, 222), (22, 223), (23, 224), (24, 225)] (fun j_ s X => match j_ with | 0 => Below X39.heap.size X39 X ∧ (X.ownsRow X39.heap.size 4 1 (.slice (some ⟨g191, 0, none⟩) N N) (N) (boolsL (N) (snB (szF N D) (chD (szF N D) D (oF df M N)) i))) ∧ (X.ownsRow X39.heap.size 3 1 (.slice (some ⟨g193, 0, none⟩) D D) (D) (intsL (D) (fun j => (laN (szF N D) (chD (szF N D) D (oF df M N)) i j : Int)))) | 1 => Below X39.heap.size X39 X ∧ (X.ownsRow X39.heap.size 4 1 (.slice (some ⟨g191, 0, none⟩) N N) (N) (boolsL (N) (snB (szF N D) (chD (szF N D) D (oF df M N)) i))) ∧ (X.ownsRow X39.heap.size 3 1 (.slice (some ⟨g193, 0, none⟩) D D) (D) (intsL (D) (fun j => (laN (szF N D) (chD (szF N D) D (oF df M N)) i j : Int)))) | 2 => Below X39.heap.size X39 X ∧ (X.ownsRow X39.heap.size 4 1 (.slice (some ⟨g191, 0, none⟩) N N) (N) (boolsL (N) (snB (szF N D) (chD (szF N D) D (oF df M N)) i))) ∧ (X.ownsRow X39.heap.size 3 1 (.slice (some ⟨g193, 0, none⟩) D D) (D) (intsL (D) (fun j => (laN (szF N D) (chD (szF N D) D (oF df M N)) i j : Int)))) | 3 => Below X39.heap.size X39 X ∧ (X.ownsRow X39.heap.size 4 1 (.slice (some ⟨g191, 0, none⟩) N N) (N) (boolsL (N) (snB (szF N D) (chD (szF N D) D (oF df M N)) i))) ∧ (X.ownsRow X39.heap.size 3 1 (.slice (some ⟨g193, 0, none⟩) D D) (D) (intsL (D) (fun j => (laN (szF N D) (chD (szF N D) D (oF df M N)) i j : Int)))) | 4 => Below X39.heap.size X39 X ∧ (X.ownsRow X39.heap.size 4 1 (.slice (some ⟨g191, 0, none⟩) N N) (N) (boolsL (N) (snB (szF N D) (chD (szF N D) D (oF df M N)) i))) ∧ (X.ownsRow X39.heap.size 3 1 (.slice (some ⟨g193, 0, none⟩) D D) (D) (intsL (D) (fun j => (laN (szF N D) (chD (szF N D) D (oF df M N)) i j : Int)))) | 5 => Below X39.heap.size X39 X ∧ (X.ownsRow X39.heap.size 4 1 (.slice (some ⟨g191, 0, none⟩) N N) (N) (boolsL (N) (snB (szF N D) (chD (szF N D) D (oF df M N)) i))) ∧ (X.ownsRow X39.heap.size 3 1 (.slice (some ⟨g193, 0, none⟩) D D) (D) (intsL (D) (fun j => (laN (szF N D) (chD (szF N D) D (oF df M N)) i j : Int)))) | 6 => Below X39.heap.size X39 X ∧ (X.ownsRow X39.heap.size 4 1 (.slice (some ⟨g191, 0, none⟩) N N) (N) (boolsL (N) (snB (szF N D) (chD (szF N D) D (oF df M N)) i))) ∧ (X.ownsRow X39.heap.size 3 1 (.slice (some ⟨g193, 0, none⟩) D D) (D) (intsL (D) (fun j => (laN (szF N D) (chD (szF N D) D (oF df M N)) i j : Int)))) | 7 => Below X39.heap.size X39 X ∧ (X.ownsRow X39.heap.size 4 1 (.slice (some ⟨g191, 0, none⟩) N N) (N) (boolsL (N) (snB (szF N D) (chD (szF N D) D (oF df M N)) i))) ∧ (X.ownsRow X39.heap.size 3 1 (.slice (some ⟨g193, 0, none⟩) D D) (D) (intsL (D) (fun j => (laN (szF N D) (chD (szF N D) D (oF df M N)) i j : Int)))) | 8 => Below X39.heap.size X39 X ∧ (X.ownsRow X39.heap.size 4 1 (.slice (some ⟨g191, 0, none⟩) N N) (N) (boolsL (N) (snB (szF N D) (chD (szF N D) D (oF df M N)) i))) ∧ (X.ownsRow X39.heap.size 3 1 (.slice (some ⟨g193, 0, none⟩) D D) (D) (intsL (D) (fun j => (laN (szF N D) (chD (szF N D) D (oF df M N)) i j : Int)))) | 9 => Below X39.heap.size X39 X ∧ (X.ownsRow X39.heap.size 4 1 (.slice (some ⟨g191, 0, none⟩) N N) (N) (boolsL (N) (snB (szF N D) (chD (szF N D) D (oF df M N)) i))) ∧ (X.ownsRow X39.heap.size 3 1 (.slice (some ⟨g193, 0, none⟩) D D) (D) (intsL (D) (fun j => (laN (szF N D) (chD (szF N D) D (oF df M N)) i j : Int)))) | 10 => Below X39.heap.size X39 X ∧ (X.ownsRow X39.heap.size 4 1 (.slice (some ⟨g191, 0, none⟩) N N) (N) (boolsL (N) (snB (szF N D) (chD (szF N D) D (oF df M N)) i))) ∧ (X.ownsRow X39.heap.size 3 1 (.slice (some ⟨g193, 0, none⟩) D D) (D) (intsL (D) (fun j => (laN (szF N D) (chD (szF N D) D (oF df M N)) i j : Int)))) | 11 => Below X39.heap.size X39 X ∧ (X.ownsRow X39.heap.size 4 1 (.slice (some ⟨g191, 0, none⟩) N N) (N) (boolsL (N) (snB (szF N D) (chD (szF N D) D (oF df M N)) i))) ∧ (X.ownsRow X39.heap.size 3 1 (.slice (some ⟨g193, 0, none⟩) D D) (D) (intsL (D) (fun j => (laN (szF N D) (chD (szF N D) D (oF df M N)) i j : Int)))) | 12 => Below X39.heap.size X39 X ∧ (X.ownsRow X39.heap.size 4 1 (.slice (some ⟨g191, 0, none⟩) N N) (N) (boolsL (N) (snB (szF N D) (chD (szF N D) D (oF df M N)) i))) ∧ (X.ownsRow X39.heap.size 3 1 (.slice (some ⟨g193, 0, none⟩) D D) (D) (intsL (D) (fun j => (laN (szF N D) (chD (szF N D) D (oF df M N)) i j : Int)))) | 13 => Below X39.heap.size X39 X ∧ (X.ownsRow X39.heap.size 4 1 (.slice (some ⟨g191, 0, none⟩) N N) (N) (boolsL (N) (snB (szF N D) (chD (szF N D) D (oF df M N)) i))) ∧ (X.ownsRow X39.heap.size 3 1 (.slice (some ⟨g193, 0, none⟩) D D) (D) (intsL (D) (fun j => (laN (szF N D) (chD (szF N D) D (oF df M N)) i j : Int)))) | 14 => Below X39.heap.size X39 X ∧ (X.ownsRow X39.heap.size 4 1 (.slice (some ⟨g191, 0, none⟩) N N) (N) (boolsL (N) (snB (szF N D) (chD (szF N D) D (oF df M N)) i))) ∧ (X.ownsRow X39.heap.size 3 1 (.slice (some ⟨g193, 0, none⟩) D D) (D) (intsL (D) (fun j => (laN (szF N D) (chD (szF N D) D (oF df M N)) i j : Int)))) | 15 => Below X39.heap.size X39 X ∧ (X.ownsRow X39.heap.size 4 1 (.slice (some ⟨g191, 0, none⟩) N N) (N) (boolsL (N) (snB (szF N D) (chD (szF N D) D (oF df M N)) i))) ∧ (X.ownsRow X39.heap.size 3 1 (.slice (some ⟨g193, 0, none⟩) D D) (D) (intsL (D) (fun j => (laN (szF N D) (chD (szF N D) D (oF df M N)) i j : Int)))) | 16 => Below X39.heap.size X39 X ∧ (X.ownsRow X39.heap.size 4 1 (.slice (some ⟨g191, 0, none⟩) N N) (N) (boolsL (N) (snB (szF N D) (chD (szF N D) D (oF df M N)) i))) ∧ (X.ownsRow X39.heap.size 3 1 (.slice (some ⟨g193, 0, none⟩) D D) (D) (intsL (D) (fun j => (laN (szF N D) (chD (szF N D) D (oF df M N)) i j : Int)))) | 17 => Below X39.heap.size X39 X ∧ (X.ownsRow X39.heap.size 4 1 (.slice (some ⟨g191, 0, none⟩) N N) (N) (boolsL (N) (snB (szF N D) (chD (szF N D) D (oF df M N)) i))) ∧ (X.ownsRow X39.heap.size 3 1 (.slice (some ⟨g193, 0, none⟩) D D) (D) (intsL (D) (fun j => (laN (szF N D) (chD (szF N D) D (oF df M N)) i j : Int)))) | 18 => Below X39.heap.size X39 X ∧ (X.ownsRow X39.heap.size 4 1 (.slice (some ⟨g191, 0, none⟩) N N) (N) (boolsL (N) (snB (szF N D) (chD (szF N D) D (oF df M N)) i))) ∧ (X.ownsRow X39.heap.size 3 1 (.slice (some ⟨g193, 0, none⟩) D D) (D) (intsL (D) (fun j => (laN (szF N D) (chD (szF N D) D (oF df M N)) i j : Int)))) | 19 => Below X39.heap.size X39 X ∧ (X.ownsRow X39.heap.size 4 1 (.slice (some ⟨g191, 0, none⟩) N N) (N) (boolsL (N) (snB (szF N D) (chD (szF N D) D (oF df M N)) i))) ∧ (X.ownsRow X39.heap.size 3 1 (.slice (some ⟨g193, 0, none⟩) D D) (D) (intsL (D) (fun j => (laN (szF N D) (chD (szF N D) D (oF df M N)) i j : Int)))) | 20 => Below X39.heap.size X39 X ∧ (X.ownsRow X39.heap.size 4 1 (.slice (some ⟨g191, 0, none⟩) N N) (N) (boolsL (N) (snB (szF N D) (chD (szF N D) D (oF df M N)) i))) ∧ (X.ownsRow X39.heap.size 3 1 (.slice (some ⟨g193, 0, none⟩) D D) (D) (intsL (D) (fun j => (laN (szF N D) (chD (szF N D) D (oF df M N)) i j : Int)))) | 21 => Below X39.heap.size X39 X ∧ (X.ownsRow X39.heap.size 4 1 (.slice (some ⟨g191, 0, none⟩) N N) (N) (boolsL (N) (snB (szF N D) (chD (szF N D) D (oF df M N)) i))) ∧ (X.ownsRow X39.heap.size 3 1 (.slice (some ⟨g193, 0, none⟩) D D) (D) (intsL (D) (fun j => (laN (szF N D) (chD (szF N D) D (oF df M N)) i j : Int)))) | 22 => Below X39.heap.size X39 X ∧ (X.ownsRow X39.heap.size 4 1 (.slice (some ⟨g191, 0, none⟩) N N) (N) (boolsL (N) (snB (szF N D) (chD (szF N D) D (oF df M N)) i))) ∧ (X.ownsRow X39.heap.size 3 1 (.slice (some ⟨g193, 0, none⟩) D D) (D) (intsL (D) (fun j => (laN (szF N D) (chD (szF N D) D (oF df M N)) i j : Int)))) | 23 => Below X39.heap.size X39 X ∧ (X.ownsRow X39.heap.size 4 1 (.slice (some ⟨g191, 0, none⟩) N N) (N) (boolsL (N) (snB (szF N D) (chD (szF N D) D (oF df M N)) i))) ∧ (X.ownsRow X39.heap.size 3 1 (.slice (some ⟨g193, 0, none⟩) D D) (D) (intsL (D) (fun j => (laN (szF N D) (chD (szF N D) D (oF df M N)) i j : Int)))) | 24 => Below X39.heap.size X39 X ∧ (X.ownsRow X39.heap.size 4 1 (.slice (some ⟨g191, 0, none⟩) N N) (N) (boolsL (N) (snB (szF N D) (chD (szF N D) D (oF df M N)) i))) ∧ (X.ownsRow X39.heap.size 3 1 (.slice (some ⟨g193, 0, none⟩) D D) (D) (intsL (D) (fun j => (laN (szF N D) (chD (szF N D) D (oF df M N)) i j : Int)))) | _ => Below X39.heap.size X39 X ∧ (X.ownsRow X39.heap.size 4 1 (.slice (some ⟨g191, 0, none⟩) N N) (N) (boolsL (N) (snB (szF N D) (chD (szF N D) D (oF df M N)) i))) ∧ (X.ownsRow X39.heap.size 3 1 (.slice (some ⟨g193, 0, none⟩) D D) (D) (intsL (D) (fun j => (laN (szF N D) (chD (szF N D) D (oF df M N)) i j : Int))))) (fun s => fun i_ => match i_ with | 0 => .int .i64 ((w : Nat) : Int) | 1 => .bool false | 2 => .bool false | 3 => .int .i64 ((w : Nat) : Int) | 4 => .int .i64 ((N : Nat) : Int) | 5 => .bool false | 6 => .bool false | 7 => .bool false | 8 => .slice (some ⟨g191, 0, none⟩) N N | 9 => .int .i64 ((w : Nat) : Int) | 10 => .pointer (some ⟨g191, 0 + w, none⟩) | 11 => .bool false | 12 => .bool false | 13 => .bool false | 14 => .int .i64 ((w : Nat) : Int) | 15 => .int .i64 ((w + 1 : Nat) : Int) | 16 => .slice (some ⟨g193, 0, none⟩) D D | 17 => a163 | 18 => .int .i64 ((i : Nat) : Int) | 19 => .pointer (some ⟨aab, aao + i, none⟩) | 20 => .int .i64 ((c : Nat) : Int) | 21 => .pointer (some ⟨g193, 0 + c, none⟩) | 22 => .int .i64 ((y : Nat) : Int) | 23 => .bool false | 24 => .bool false | _ => undef) () A.1 (by kernel_rfl) (by decide) (by decide) ⟨BB, FB, FA⟩ ?_ ?_
                · intro i_ hi_ s a X hf hv hn hS
                  match i_, hi_ with
                  | 0, _ => exact stepV rfl rfl (execMvB rfl ((hf 26 (by decide)).trans t26)) ⟨s, ⟨_, rfl, rfl⟩, hS, fun _ _ => rfl⟩
                  | 1, _ => exact stepV rfl rfl (execDec (execLtW (p := w) (q := 0) rfl (hv 0 (by decide) _ rfl _ rfl) rfl) (decide_eq_false (by omega))) ⟨s, ⟨_, rfl, rfl⟩, hS, fun _ _ => rfl⟩
                  | 2, _ => exact stepV rfl rfl (execMvB rfl (hv 1 (by decide) _ rfl _ rfl)) ⟨s, ⟨_, rfl, rfl⟩, hS, fun _ _ => rfl⟩
                  | 3, _ => exact stepV rfl (wantedOf rfl (yieldedAt rfl rfl (show a.eval (.tmp 203) = .bool false from (hv 2 (by decide) _ rfl _ rfl)))) (execMvB rfl ((hf 26 (by decide)).trans t26)) ⟨s, ⟨_, rfl, rfl⟩, hS, fun _ _ => rfl⟩
                  | 4, _ => exact stepV rfl (wantedOf rfl (yieldedAt rfl rfl (show a.eval (.tmp 203) = .bool false from (hv 2 (by decide) _ rfl _ rfl)))) (execMvB rfl ((hf 0 (by decide)).trans t0)) ⟨s, ⟨_, rfl, rfl⟩, hS, fun _ _ => rfl⟩
                  | 5, _ => exact stepV rfl (wantedOf rfl (yieldedAt rfl rfl (show a.eval (.tmp 203) = .bool false from (hv 2 (by decide) _ rfl _ rfl)))) (execDec (execGe8 (p := w) (q := N) rfl (hv 3 (by decide) _ rfl _ rfl) (hv 4 (by decide) _ rfl _ rfl)) (decide_eq_false (by omega))) ⟨s, ⟨_, rfl, rfl⟩, hS, fun _ _ => rfl⟩
                  | 6, _ => exact stepV rfl rfl (execPickF rfl (hv 2 (by decide) _ rfl _ rfl) (hv 5 (by decide) _ rfl _ rfl)) ⟨s, ⟨_, rfl, rfl⟩, hS, fun _ _ => rfl⟩
                  | 7, _ => exact stepV rfl rfl (execMvB rfl (hv 6 (by decide) _ rfl _ rfl)) ⟨s, ⟨_, rfl, rfl⟩, hS, fun _ _ => rfl⟩
                  | 8, _ => exact stepV rfl (wantedOf rfl (yieldedAt rfl rfl (show a.eval (.tmp 208) = .bool false from (hv 7 (by decide) _ rfl _ rfl)))) (execMvB rfl ((hf 23 (by decide)).trans t23)) ⟨s, ⟨_, rfl, rfl⟩, hS, fun _ _ => rfl⟩
                  | 9, _ => exact stepV rfl (wantedOf rfl (yieldedAt rfl rfl (show a.eval (.tmp 208) = .bool false from (hv 7 (by decide) _ rfl _ rfl)))) (execMvB rfl ((hf 26 (by decide)).trans t26)) ⟨s, ⟨_, rfl, rfl⟩, hS, fun _ _ => rfl⟩
                  | 10, _ => exact stepV rfl (wantedOf rfl (yieldedAt rfl rfl (show a.eval (.tmp 208) = .bool false from (hv 7 (by decide) _ rfl _ rfl)))) (execIdxBl (k := w) rfl (hv 8 (by decide) _ rfl _ rfl) (hv 9 (by decide) _ rfl _ rfl) hwN) ⟨s, ⟨_, rfl, rfl⟩, hS, fun _ _ => rfl⟩
                  | 11, _ => exact stepV rfl (wantedOf rfl (yieldedAt rfl rfl (show a.eval (.tmp 208) = .bool false from (hv 7 (by decide) _ rfl _ rfl)))) (execLdBl rfl (hv 10 (by decide) _ rfl _ rfl) ((own_cellBl hS.2.1 hwN).1.trans (by rw [hsn]))) ⟨s, ⟨_, rfl, rfl⟩, hS, fun _ _ => rfl⟩
                  | 12, _ => exact stepV rfl rfl (execPickF rfl (hv 7 (by decide) _ rfl _ rfl) (hv 11 (by decide) _ rfl _ rfl)) ⟨s, ⟨_, rfl, rfl⟩, hS, fun _ _ => rfl⟩
                  | 13, _ => exact stepV rfl rfl (execMvB rfl (hv 12 (by decide) _ rfl _ rfl)) ⟨s, ⟨_, rfl, rfl⟩, hS, fun _ _ => rfl⟩
                  | 14, _ => exact stepV rfl (wantedOf rfl (yieldedAt rfl rfl (show a.eval (.tmp 214) = .bool false from (hv 13 (by decide) _ rfl _ rfl)))) (execMvB rfl ((hf 26 (by decide)).trans t26)) ⟨s, ⟨_, rfl, rfl⟩, hS, fun _ _ => rfl⟩
                  | 15, _ => exact stepV rfl (wantedOf rfl (yieldedAt rfl rfl (show a.eval (.tmp 214) = .bool false from (hv 13 (by decide) _ rfl _ rfl)))) (execAd8 (p := w) (q := 1) rfl (hv 14 (by decide) _ rfl _ rfl) rfl (by omega)) ⟨s, ⟨_, rfl, rfl⟩, hS, fun _ _ => rfl⟩
                  | 16, _ => exact stepV rfl (wantedOf rfl (yieldedAt rfl rfl (show a.eval (.tmp 214) = .bool false from (hv 13 (by decide) _ rfl _ rfl)))) (execMvB rfl ((hf 24 (by decide)).trans t24)) ⟨s, ⟨_, rfl, rfl⟩, hS, fun _ _ => rfl⟩
                  | 17, _ => exact stepV rfl (wantedOf rfl (yieldedAt rfl rfl (show a.eval (.tmp 214) = .bool false from (hv 13 (by decide) _ rfl _ rfl)))) (execMvB rfl ((hf 18 (by decide)).trans t18)) ⟨s, ⟨_, rfl, rfl⟩, hS, fun _ _ => rfl⟩
                  | 18, _ => exact stepV rfl (wantedOf rfl (yieldedAt rfl rfl (show a.eval (.tmp 214) = .bool false from (hv 13 (by decide) _ rfl _ rfl)))) (execMvB rfl ((hf 25 (by decide)).trans t25)) ⟨s, ⟨_, rfl, rfl⟩, hS, fun _ _ => rfl⟩
                  | 19, _ => exact stepV rfl (wantedOf rfl (yieldedAt rfl rfl (show a.eval (.tmp 214) = .bool false from (hv 13 (by decide) _ rfl _ rfl)))) (execIdxN (k := i) rfl ((hv 17 (by decide) _ rfl _ rfl).trans eaa) (hv 18 (by decide) _ rfl _ rfl) lti) ⟨s, ⟨_, rfl, rfl⟩, hS, fun _ _ => rfl⟩
                  | 20, _ => exact stepV rfl (wantedOf rfl (yieldedAt rfl rfl (show a.eval (.tmp 214) = .bool false from (hv 13 (by decide) _ rfl _ rfl)))) (execLd3 rfl (hv 19 (by decide) _ rfl _ rfl) ((caa i lti X hS.1).trans (by rw [← ec]))) ⟨s, ⟨_, rfl, rfl⟩, hS, fun _ _ => rfl⟩
                  | 21, _ => exact stepV rfl (wantedOf rfl (yieldedAt rfl rfl (show a.eval (.tmp 214) = .bool false from (hv 13 (by decide) _ rfl _ rfl)))) (execIdxN (k := c) rfl (hv 16 (by decide) _ rfl _ rfl) (hv 20 (by decide) _ rfl _ rfl) hcD) ⟨s, ⟨_, rfl, rfl⟩, hS, fun _ _ => rfl⟩
                  | 22, _ => exact stepV rfl (wantedOf rfl (yieldedAt rfl rfl (show a.eval (.tmp 214) = .bool false from (hv 13 (by decide) _ rfl _ rfl)))) (execLd3 rfl (hv 21 (by decide) _ rfl _ rfl) ((own_cellI hS.2.2 hcD).1.trans (by rw [← ey]))) ⟨s, ⟨_, rfl, rfl⟩, hS, fun _ _ => rfl⟩
                  | 23, _ => exact stepV rfl (wantedOf rfl (yieldedAt rfl rfl (show a.eval (.tmp 214) = .bool false from (hv 13 (by decide) _ rfl _ rfl)))) (execDec (execLeN (p := w + 1) (q := y) rfl (hv 15 (by decide) _ rfl _ rfl) (hv 22 (by decide) _ rfl _ rfl)) (decide_eq_false (by omega))) ⟨s, ⟨_, rfl, rfl⟩, hS, fun _ _ => rfl⟩
                  | 24, _ => exact stepV rfl rfl (execPickF rfl (hv 13 (by decide) _ rfl _ rfl) (hv 23 (by decide) _ rfl _ rfl)) ⟨s, ⟨_, rfl, rfl⟩, hS, fun _ _ => rfl⟩
                  | k_ + 25, h_ => exact absurd h_ (by simp)
                rintro _ a X46 h1 h2 h3 h4 hS
                clear BB
                clear FB
                clear FA
                replace hS : Below X39.heap.size X39 X46 ∧ (X46.ownsRow X39.heap.size 4 1 (.slice (some ⟨g191, 0, none⟩) N N) (N) (boolsL (N) (snB (szF N D) (chD (szF N D) D (oF df M N)) i))) ∧ (X46.ownsRow X39.heap.size 3 1 (.slice (some ⟨g193, 0, none⟩) D D) (D) (intsL (D) (fun j => (laN (szF N D) (chD (szF N D) D (oF df M N)) i j : Int)))) := hS
                obtain ⟨BB, FB, FA⟩ := hS
                replace t0 := (h3 0 (by decide)).trans t0
                replace t18 := (h3 18 (by decide)).trans t18
                replace t23 := (h3 23 (by decide)).trans t23
                replace t24 := (h3 24 (by decide)).trans t24
                replace t194 := (h3 194 (by decide)).trans t194
                replace t195 := (h3 195 (by decide)).trans t195
                replace t196 := (h3 196 (by decide)).trans t196
                replace t25 := (h3 25 (by decide)).trans t25
                replace t26 := (h3 26 (by decide)).trans t26
                have t225 : a.eval (.tmp 225) = .bool false := h4 24 _ rfl _ rfl
                replace A := (⟨h1, h2.trans A.2⟩ : a.tmps.size = 238 ∧ a.defers = [])
                clear h1 h2 h3 h4
                refine wp_cond_false t225 ?_
                refine wp_skip ?_
                clear t225
                refine wp_seq ?_
                refine wp_region_sq (σ := Unit) 238 [(0, 226), (1, 227), (2, 228)] (fun j_ s X => match j_ with | 0 => Below X39.heap.size X39 X ∧ (X.ownsRow X39.heap.size 4 1 (.slice (some ⟨g191, 0, none⟩) N N) (N) (boolsL (N) (snB (szF N D) (chD (szF N D) D (oF df M N)) i))) ∧ (X.ownsRow X39.heap.size 3 1 (.slice (some ⟨g193, 0, none⟩) D D) (D) (intsL (D) (fun j => (laN (szF N D) (chD (szF N D) D (oF df M N)) i j : Int)))) | 1 => Below X39.heap.size X39 X ∧ (X.ownsRow X39.heap.size 4 1 (.slice (some ⟨g191, 0, none⟩) N N) (N) (boolsL (N) (snB (szF N D) (chD (szF N D) D (oF df M N)) i))) ∧ (X.ownsRow X39.heap.size 3 1 (.slice (some ⟨g193, 0, none⟩) D D) (D) (intsL (D) (fun j => (laN (szF N D) (chD (szF N D) D (oF df M N)) i j : Int)))) | 2 => Below X39.heap.size X39 X ∧ (X.ownsRow X39.heap.size 4 1 (.slice (some ⟨g191, 0, none⟩) N N) (N) (boolsL (N) (snB (szF N D) (chD (szF N D) D (oF df M N)) i))) ∧ (X.ownsRow X39.heap.size 3 1 (.slice (some ⟨g193, 0, none⟩) D D) (D) (intsL (D) (fun j => (laN (szF N D) (chD (szF N D) D (oF df M N)) i j : Int)))) | 3 => Below X39.heap.size X39 X ∧ (X.ownsRow X39.heap.size 4 1 (.slice (some ⟨g191, 0, none⟩) N N) (N) (boolsL (N) (snB (szF N D) (chD (szF N D) D (oF df M N)) i))) ∧ (X.ownsRow X39.heap.size 3 1 (.slice (some ⟨g193, 0, none⟩) D D) (D) (intsL (D) (fun j => (laN (szF N D) (chD (szF N D) D (oF df M N)) i j : Int)))) | _ => Below X39.heap.size X39 X ∧ (X.ownsRow X39.heap.size 3 1 (.slice (some ⟨g193, 0, none⟩) D D) (D) (intsL (D) (fun j => (laN (szF N D) (chD (szF N D) D (oF df M N)) i j : Int)))) ∧ (X.ownsRow X39.heap.size 4 1 (.slice (some ⟨g191, 0, none⟩) N N) (N) (boolsL (N) (snB (szF N D) (chD (szF N D) D (oF df M N)) (i + 1))))) (fun s => fun i_ => match i_ with | 0 => .slice (some ⟨g191, 0, none⟩) N N | 1 => .int .i64 ((w : Nat) : Int) | 2 => .pointer (some ⟨g191, 0 + w, none⟩) | 3 => undef | _ => undef) () A.1 (by kernel_rfl) (by decide) (by decide) ⟨BB, FB, FA⟩ ?_ ?_
                · intro i_ hi_ s a X hf hv hn hS
                  match i_, hi_ with
                  | 0, _ => exact stepV rfl rfl (execMvB rfl ((hf 23 (by decide)).trans t23)) ⟨s, ⟨_, rfl, rfl⟩, hS, fun _ _ => rfl⟩
                  | 1, _ => exact stepV rfl rfl (execMvB rfl ((hf 26 (by decide)).trans t26)) ⟨s, ⟨_, rfl, rfl⟩, hS, fun _ _ => rfl⟩
                  | 2, _ => exact stepV rfl rfl (execIdxBl (k := w) rfl (hv 0 (by decide) _ rfl _ rfl) (hv 1 (by decide) _ rfl _ rfl) hwN) ⟨s, ⟨_, rfl, rfl⟩, hS, fun _ _ => rfl⟩
                  | 3, _ =>
                    obtain ⟨hc_, hf_⟩ := own_cellBl hS.2.1 hwN
                    refine stepS rfl rfl (execStBl (z := true) rfl (hv 2 (by decide) _ rfl _ rfl) rfl hc_ hf_) ⟨s, ⟨_, rfl, rfl⟩, ⟨(hS.1).setCell FBg _, (own_offT hS.2.2 (own_cur hS.2.1).choose_spec.1 (by decide)), sn_set hS.2.1 ew⟩, fun i hi => ?_⟩
                    match i, hi with
                    | 0, _ => rfl
                    | 1, _ => rfl
                    | 2, _ => rfl
                    | n_ + 3, h_ => omega
                  | k_ + 4, h_ => exact absurd h_ (by simp)
                rintro _ a X48 h1 h2 h3 h4 hS
                clear BB
                clear FB
                clear FA
                replace hS : Below X39.heap.size X39 X48 ∧ (X48.ownsRow X39.heap.size 3 1 (.slice (some ⟨g193, 0, none⟩) D D) (D) (intsL (D) (fun j => (laN (szF N D) (chD (szF N D) D (oF df M N)) i j : Int)))) ∧ (X48.ownsRow X39.heap.size 4 1 (.slice (some ⟨g191, 0, none⟩) N N) (N) (boolsL (N) (snB (szF N D) (chD (szF N D) D (oF df M N)) (i + 1)))) := hS
                obtain ⟨BB, FA, FB2⟩ := hS
                replace t0 := (h3 0 (by decide)).trans t0
                replace t18 := (h3 18 (by decide)).trans t18
                replace t23 := (h3 23 (by decide)).trans t23
                replace t24 := (h3 24 (by decide)).trans t24
                replace t194 := (h3 194 (by decide)).trans t194
                replace t195 := (h3 195 (by decide)).trans t195
                replace t196 := (h3 196 (by decide)).trans t196
                replace t25 := (h3 25 (by decide)).trans t25
                replace t26 := (h3 26 (by decide)).trans t26
                replace A := (⟨h1, h2.trans A.2⟩ : a.tmps.size = 238 ∧ a.defers = [])
                clear h1 h2 h3 h4
                refine wp_region_sq (σ := Unit) 238 [(0, 229), (1, 230), (2, 231), (3, 232), (4, 233), (5, 234), (6, 235), (7, 236)] (fun j_ s X => match j_ with | 0 => Below X39.heap.size X39 X ∧ (X.ownsRow X39.heap.size 3 1 (.slice (some ⟨g193, 0, none⟩) D D) (D) (intsL (D) (fun j => (laN (szF N D) (chD (szF N D) D (oF df M N)) i j : Int)))) ∧ (X.ownsRow X39.heap.size 4 1 (.slice (some ⟨g191, 0, none⟩) N N) (N) (boolsL (N) (snB (szF N D) (chD (szF N D) D (oF df M N)) (i + 1)))) | 1 => Below X39.heap.size X39 X ∧ (X.ownsRow X39.heap.size 3 1 (.slice (some ⟨g193, 0, none⟩) D D) (D) (intsL (D) (fun j => (laN (szF N D) (chD (szF N D) D (oF df M N)) i j : Int)))) ∧ (X.ownsRow X39.heap.size 4 1 (.slice (some ⟨g191, 0, none⟩) N N) (N) (boolsL (N) (snB (szF N D) (chD (szF N D) D (oF df M N)) (i + 1)))) | 2 => Below X39.heap.size X39 X ∧ (X.ownsRow X39.heap.size 3 1 (.slice (some ⟨g193, 0, none⟩) D D) (D) (intsL (D) (fun j => (laN (szF N D) (chD (szF N D) D (oF df M N)) i j : Int)))) ∧ (X.ownsRow X39.heap.size 4 1 (.slice (some ⟨g191, 0, none⟩) N N) (N) (boolsL (N) (snB (szF N D) (chD (szF N D) D (oF df M N)) (i + 1)))) | 3 => Below X39.heap.size X39 X ∧ (X.ownsRow X39.heap.size 3 1 (.slice (some ⟨g193, 0, none⟩) D D) (D) (intsL (D) (fun j => (laN (szF N D) (chD (szF N D) D (oF df M N)) i j : Int)))) ∧ (X.ownsRow X39.heap.size 4 1 (.slice (some ⟨g191, 0, none⟩) N N) (N) (boolsL (N) (snB (szF N D) (chD (szF N D) D (oF df M N)) (i + 1)))) | 4 => Below X39.heap.size X39 X ∧ (X.ownsRow X39.heap.size 3 1 (.slice (some ⟨g193, 0, none⟩) D D) (D) (intsL (D) (fun j => (laN (szF N D) (chD (szF N D) D (oF df M N)) i j : Int)))) ∧ (X.ownsRow X39.heap.size 4 1 (.slice (some ⟨g191, 0, none⟩) N N) (N) (boolsL (N) (snB (szF N D) (chD (szF N D) D (oF df M N)) (i + 1)))) | 5 => Below X39.heap.size X39 X ∧ (X.ownsRow X39.heap.size 3 1 (.slice (some ⟨g193, 0, none⟩) D D) (D) (intsL (D) (fun j => (laN (szF N D) (chD (szF N D) D (oF df M N)) i j : Int)))) ∧ (X.ownsRow X39.heap.size 4 1 (.slice (some ⟨g191, 0, none⟩) N N) (N) (boolsL (N) (snB (szF N D) (chD (szF N D) D (oF df M N)) (i + 1)))) | 6 => Below X39.heap.size X39 X ∧ (X.ownsRow X39.heap.size 3 1 (.slice (some ⟨g193, 0, none⟩) D D) (D) (intsL (D) (fun j => (laN (szF N D) (chD (szF N D) D (oF df M N)) i j : Int)))) ∧ (X.ownsRow X39.heap.size 4 1 (.slice (some ⟨g191, 0, none⟩) N N) (N) (boolsL (N) (snB (szF N D) (chD (szF N D) D (oF df M N)) (i + 1)))) | 7 => Below X39.heap.size X39 X ∧ (X.ownsRow X39.heap.size 3 1 (.slice (some ⟨g193, 0, none⟩) D D) (D) (intsL (D) (fun j => (laN (szF N D) (chD (szF N D) D (oF df M N)) i j : Int)))) ∧ (X.ownsRow X39.heap.size 4 1 (.slice (some ⟨g191, 0, none⟩) N N) (N) (boolsL (N) (snB (szF N D) (chD (szF N D) D (oF df M N)) (i + 1)))) | 8 => Below X39.heap.size X39 X ∧ (X.ownsRow X39.heap.size 3 1 (.slice (some ⟨g193, 0, none⟩) D D) (D) (intsL (D) (fun j => (laN (szF N D) (chD (szF N D) D (oF df M N)) i j : Int)))) ∧ (X.ownsRow X39.heap.size 4 1 (.slice (some ⟨g191, 0, none⟩) N N) (N) (boolsL (N) (snB (szF N D) (chD (szF N D) D (oF df M N)) (i + 1)))) | _ => Below X39.heap.size X39 X ∧ (X.ownsRow X39.heap.size 4 1 (.slice (some ⟨g191, 0, none⟩) N N) (N) (boolsL (N) (snB (szF N D) (chD (szF N D) D (oF df M N)) (i + 1)))) ∧ (X.ownsRow X39.heap.size 3 1 (.slice (some ⟨g193, 0, none⟩) D D) (D) (intsL (D) (fun j => (laN (szF N D) (chD (szF N D) D (oF df M N)) (i + 1) j : Int))))) (fun s => fun i_ => match i_ with | 0 => .slice (some ⟨g193, 0, none⟩) D D | 1 => a163 | 2 => .int .i64 ((i : Nat) : Int) | 3 => .pointer (some ⟨aab, aao + i, none⟩) | 4 => .int .i64 ((c : Nat) : Int) | 5 => .int .i64 ((w : Nat) : Int) | 6 => .int .i64 ((w + 1 : Nat) : Int) | 7 => .pointer (some ⟨g193, 0 + c, none⟩) | 8 => undef | _ => undef) () A.1 (by kernel_rfl) (by decide) (by decide) ⟨BB, FA, FB2⟩ ?_ ?_
                · intro i_ hi_ s a X hf hv hn hS
                  match i_, hi_ with
                  | 0, _ => exact stepV rfl rfl (execMvB rfl ((hf 24 (by decide)).trans t24)) ⟨s, ⟨_, rfl, rfl⟩, hS, fun _ _ => rfl⟩
                  | 1, _ => exact stepV rfl rfl (execMvB rfl ((hf 18 (by decide)).trans t18)) ⟨s, ⟨_, rfl, rfl⟩, hS, fun _ _ => rfl⟩
                  | 2, _ => exact stepV rfl rfl (execMvB rfl ((hf 25 (by decide)).trans t25)) ⟨s, ⟨_, rfl, rfl⟩, hS, fun _ _ => rfl⟩
                  | 3, _ => exact stepV rfl rfl (execIdxN (k := i) rfl ((hv 1 (by decide) _ rfl _ rfl).trans eaa) (hv 2 (by decide) _ rfl _ rfl) lti) ⟨s, ⟨_, rfl, rfl⟩, hS, fun _ _ => rfl⟩
                  | 4, _ => exact stepV rfl rfl (execLd3 rfl (hv 3 (by decide) _ rfl _ rfl) ((caa i lti X hS.1).trans (by rw [← ec]))) ⟨s, ⟨_, rfl, rfl⟩, hS, fun _ _ => rfl⟩
                  | 5, _ => exact stepV rfl rfl (execMvB rfl ((hf 26 (by decide)).trans t26)) ⟨s, ⟨_, rfl, rfl⟩, hS, fun _ _ => rfl⟩
                  | 6, _ => exact stepV rfl rfl (execAd8 (p := w) (q := 1) rfl (hv 5 (by decide) _ rfl _ rfl) rfl (by omega)) ⟨s, ⟨_, rfl, rfl⟩, hS, fun _ _ => rfl⟩
                  | 7, _ => exact stepV rfl rfl (execIdxN (k := c) rfl (hv 0 (by decide) _ rfl _ rfl) (hv 4 (by decide) _ rfl _ rfl) hcD) ⟨s, ⟨_, rfl, rfl⟩, hS, fun _ _ => rfl⟩
                  | 8, _ =>
                    obtain ⟨hc_, hf_⟩ := own_cellI hS.2.1 hcD
                    refine stepS rfl rfl (execStI9 rfl (hv 7 (by decide) _ rfl _ rfl) (hv 6 (by decide) _ rfl _ rfl) hc_ hf_) ⟨s, ⟨_, rfl, rfl⟩, ⟨(hS.1).setCell FAg _, (own_offT hS.2.2 (own_cur hS.2.1).choose_spec.1 (by decide)), la_set hS.2.1 ec ew⟩, fun i hi => ?_⟩
                    match i, hi with
                    | 0, _ => rfl
                    | 1, _ => rfl
                    | 2, _ => rfl
                    | 3, _ => rfl
                    | 4, _ => rfl
                    | 5, _ => rfl
                    | 6, _ => rfl
                    | 7, _ => rfl
                    | n_ + 8, h_ => omega
                  | k_ + 9, h_ => exact absurd h_ (by simp)
                rintro _ a X49 h1 h2 h3 h4 hS
                clear BB
                clear FA
                clear FB2
                replace hS : Below X39.heap.size X39 X49 ∧ (X49.ownsRow X39.heap.size 4 1 (.slice (some ⟨g191, 0, none⟩) N N) (N) (boolsL (N) (snB (szF N D) (chD (szF N D) D (oF df M N)) (i + 1)))) ∧ (X49.ownsRow X39.heap.size 3 1 (.slice (some ⟨g193, 0, none⟩) D D) (D) (intsL (D) (fun j => (laN (szF N D) (chD (szF N D) D (oF df M N)) (i + 1) j : Int)))) := hS
                obtain ⟨BB, FB2, FA2⟩ := hS
                replace t0 := (h3 0 (by decide)).trans t0
                replace t18 := (h3 18 (by decide)).trans t18
                replace t23 := (h3 23 (by decide)).trans t23
                replace t24 := (h3 24 (by decide)).trans t24
                replace t194 := (h3 194 (by decide)).trans t194
                replace t195 := (h3 195 (by decide)).trans t195
                replace t196 := (h3 196 (by decide)).trans t196
                replace A := (⟨h1, h2.trans A.2⟩ : a.tmps.size = 238 ∧ a.defers = [])
                clear h1 h2 h3 h4
                clear t25 t26
                refine wp_region_sq (σ := Unit) 238 [(0, 237), (1, 196)] (fun j_ s X => match j_ with | 0 => Below X39.heap.size X39 X ∧ (X.ownsRow X39.heap.size 4 1 (.slice (some ⟨g191, 0, none⟩) N N) (N) (boolsL (N) (snB (szF N D) (chD (szF N D) D (oF df M N)) (i + 1)))) ∧ (X.ownsRow X39.heap.size 3 1 (.slice (some ⟨g193, 0, none⟩) D D) (D) (intsL (D) (fun j => (laN (szF N D) (chD (szF N D) D (oF df M N)) (i + 1) j : Int)))) | 1 => Below X39.heap.size X39 X ∧ (X.ownsRow X39.heap.size 4 1 (.slice (some ⟨g191, 0, none⟩) N N) (N) (boolsL (N) (snB (szF N D) (chD (szF N D) D (oF df M N)) (i + 1)))) ∧ (X.ownsRow X39.heap.size 3 1 (.slice (some ⟨g193, 0, none⟩) D D) (D) (intsL (D) (fun j => (laN (szF N D) (chD (szF N D) D (oF df M N)) (i + 1) j : Int)))) | _ => Below X39.heap.size X39 X ∧ (X.ownsRow X39.heap.size 4 1 (.slice (some ⟨g191, 0, none⟩) N N) (N) (boolsL (N) (snB (szF N D) (chD (szF N D) D (oF df M N)) (i + 1)))) ∧ (X.ownsRow X39.heap.size 3 1 (.slice (some ⟨g193, 0, none⟩) D D) (D) (intsL (D) (fun j => (laN (szF N D) (chD (szF N D) D (oF df M N)) (i + 1) j : Int))))) (fun s => fun i_ => match i_ with | 0 => .int .i64 ((i + 1 : Nat) : Int) | 1 => .int .i64 ((i + 1 : Nat) : Int) | _ => undef) () A.1 (by kernel_rfl) (by decide) (by decide) ⟨BB, FB2, FA2⟩ ?_ ?_
                · intro i_ hi_ s a X hf hv hn hS
                  match i_, hi_ with
                  | 0, _ => exact stepV rfl rfl (execAd8 (p := i) (q := 1) rfl ((hn 1 (by decide) _ rfl _ rfl).trans t196) rfl (by omega)) ⟨s, ⟨_, rfl, rfl⟩, hS, fun _ _ => rfl⟩
                  | 1, _ => exact stepV rfl rfl (execMvB rfl (hv 0 (by decide) _ rfl _ rfl)) ⟨s, ⟨_, rfl, rfl⟩, hS, fun _ _ => rfl⟩
                  | k_ + 2, h_ => exact absurd h_ (by simp)
                rintro _ a X50 h1 h2 h3 h4 hS
                clear BB
                clear FB2
                clear FA2
                replace hS : Below X39.heap.size X39 X50 ∧ (X50.ownsRow X39.heap.size 4 1 (.slice (some ⟨g191, 0, none⟩) N N) (N) (boolsL (N) (snB (szF N D) (chD (szF N D) D (oF df M N)) (i + 1)))) ∧ (X50.ownsRow X39.heap.size 3 1 (.slice (some ⟨g193, 0, none⟩) D D) (D) (intsL (D) (fun j => (laN (szF N D) (chD (szF N D) D (oF df M N)) (i + 1) j : Int)))) := hS
                obtain ⟨BB, FB2, FA2⟩ := hS
                replace t0 := (h3 0 (by decide)).trans t0
                replace t18 := (h3 18 (by decide)).trans t18
                replace t23 := (h3 23 (by decide)).trans t23
                replace t24 := (h3 24 (by decide)).trans t24
                replace t194 := (h3 194 (by decide)).trans t194
                replace t195 := (h3 195 (by decide)).trans t195
                replace t196 : a.eval (.tmp 196) = .int .i64 ((i + 1 : Nat) : Int) := h4 1 _ rfl _ rfl
                replace A := (⟨h1, h2.trans A.2⟩ : a.tmps.size = 238 ∧ a.defers = [])
                clear h1 h2 h3 h4
                exact ⟨⟨i + 1, lti, A, t0, t18, t23, t24, t194, t195, t196, BB, FB2, FA2⟩, by show N - (intOf (a.eval (.tmp 196))).toNat < N - (intOf (Act.eval _ (.tmp 196))).toNat; rw [t196, esi]; show N - (i + 1) < N - i; omega⟩
              · rw [decide_eq_false lti] at t197
                refine wp_cond_false t197 ?_
                refine wp_exit ?_
                first | with_reducible refine exit_in ?_ | with_reducible refine exit_then (exit_in ?_) | with_reducible refine exit_then (exit_then (exit_in ?_)) | refine exit_in ?_ | refine exit_then (exit_in ?_) | refine exit_then (exit_then (exit_in ?_))
                clear t197 esi
                clear t0 t18 t23 t24 t194 t195 t196 FB FA
                replace Fa163 := (Fa163.on BB)
                replace Fw170 := (Fw170.on BB)
                replace BW := BW.trans (BB.mono BW.size)
                clear BB
                refine wp_seq ?_
                refine wp_region_sq (σ := Unit) 238 [(0, 6)] (fun j_ s X => match j_ with | 0 => Below X44.heap.size X44 X | _ => Below X44.heap.size X44 X) (fun s => fun i_ => match i_ with | 0 => .bool true | _ => undef) () A.1 (by kernel_rfl) (by decide) (by decide) (Below.refl _ _) ?_ ?_
                · intro i_ hi_ s a X hf hv hn hS
                  match i_, hi_ with
                  | 0, _ => exact stepV rfl rfl (execAsgB rfl rfl) ⟨s, ⟨_, rfl, rfl⟩, hS, fun _ _ => rfl⟩
                  | k_ + 1, h_ => exact absurd h_ (by simp)
                rintro _ a X51 h1 h2 h3 h4 hS
                replace hS : Below X44.heap.size X44 X51 := hS
                have bX := hS
                clear hS
                have t6 : a.eval (.tmp 6) = .bool true := h4 0 _ rfl _ rfl
                replace Fa163 := (Fa163.on bX)
                replace Fw170 := (Fw170.on bX)
                have ZX51 := bX.size
                replace BW := BW.trans (bX.mono BW.size)
                clear bX
                replace A := (⟨h1, h2.trans A.2⟩ : a.tmps.size = 238 ∧ a.defers = [])
                clear h1 h2 h3 h4
                refine wp_ret ?_
                repeat (first | with_reducible refine ret_in ?_ | with_reducible refine ret_then ?_)
                refine bodyPost_ret (results_tmp rfl _ _ _) A.2 ⟨?_, BW⟩
                show Ending.returned (a.eval (.tmp 6)) = _
                rw [t6]
end Go.Proofs.Ytdecmmcphcomhaa.Brd
