import Derived.Test.YthiakjmjpchckaaZ9a
import Derived.Test.YthiakjmjpchckaaP9b
import Derived.Test.YthiakjmjpchckaaV9o
namespace Go.Proofs.Ythiakjmjpchckaa.Prm
open Go.RowKit Gf8 Aes By8 Cel Cf Tap Drw
/- Stage 11's reference: Check, Identity, Bounds, Put. Written by tools/mkP9c.py. -/

def pE (f : Nat → Int) (n : Nat) : Nat := if okQ f n n = true then 0 else 110
def gN (f : Nat → Int) : Nat → Nat := fun i => (f i).toNat
theorem okQ_succ {f : Nat → Int} {n i : Nat} (h : okQ f n i = true) (h1 : ¬ f i < 0) (h2 : ¬ (n : Int) ≤ f i) (h3 : ¬ inI f (f i) i = true) : okQ f n (i + 1) = true := by
  simp only [okQ, h, Bool.true_and, Bool.and_eq_true, decide_eq_true_eq, Bool.not_eq_true', Bool.eq_false_iff.2 h3, and_true]
  omega
theorem pE_bad {f : Nat → Int} {n i : Nat} (hi : i < n) (h : f i < 0 ∨ (n : Int) ≤ f i ∨ inI f (f i) i = true) : pE f n = 110 := if_neg fun q => by
  obtain ⟨h1, h2⟩ := okQ_iff.1 q
  have := h1 i hi
  rcases h with h | h | h
  · omega
  · omega
  · obtain ⟨j, hj, e⟩ := inI_iff.1 h
    have := h2 j i (by omega) hi e
    omega
def boolsL (n : Nat) (s : Nat → Bool) : List Value := (List.range n).map fun j => .bool (s j)
theorem boolsL_len (n : Nat) (s : Nat → Bool) : (boolsL n s).length = n := by simp [boolsL]
theorem boolsL_get {n j : Nat} {s : Nat → Bool} (h : j < n) : (boolsL n s)[j]? = some (.bool (s j)) := by simp [boolsL, h]
theorem boolsL_congr {n : Nat} {f g : Nat → Bool} (h : ∀ j, j < n → f j = g j) : boolsL n f = boolsL n g := by
  unfold boolsL
  apply List.map_congr_left
  intro i hi
  rw [h i (List.mem_range.1 hi)]
theorem infoBl : ∃ i, Try.prog.info? 4 = some i ∧ i.zero = some (.bool false) ∧ i.size = 1 ∧ i.bytes = 1 := by
  have h : (Try.prog.info? 4).map (fun i => (i.zero, i.size, i.bytes)) = some (some (.bool false), 1, 1) := by kernel_rfl
  cases hq : Try.prog.info? 4 with
  | none => rw [hq] at h; cases h
  | some i =>
    rw [hq] at h
    simp only [Option.map_some, Option.some.injEq, Prod.mk.injEq] at h
    exact ⟨i, rfl, h.1, h.2.1, h.2.2⟩
section
variable {o : Oper} {a : Act} {w : World}
theorem execMkBl {x y : Operand} {n : Nat} (ho : o.op = .makeSlice 43 x y) (hx : a.eval x = .int .i64 (n : Int)) (hy : a.eval y = .int .i64 (n : Int)) (hn : n ≤ 140737488355328) : (execOp a.eval o).run Try.prog w = .ok (.value (.slice (some ⟨w.heap.size, 0, none⟩) n n)) (w.alloc (.cells (madeCells #[.bool false] n) 4)) := by
  obtain ⟨i, h1, h2, h3, h4⟩ := infoBl
  have h := run_make (P := Try.prog) w 43 4 i (.bool false) Try.underlying43 h1 h2 .i64 .i64 (n : Int) (n : Int) (by omega) (by omega) (by rw [h4]; omega) (by omega)
  rw [h3, Int.toNat_natCast, Nat.mul_one] at h
  unfold execOp
  simp only [ho, hx, hy, Sem.run_bind, h, Result.andThen_ok, Sem.run_pure]
  rfl
theorem execIdxBl {x i : Operand} {b off n cap k : Nat} (ho : o.op = .indexAddr 43 x i) (hx : a.eval x = .slice (some ⟨b, off, none⟩) n cap) (hi : a.eval i = .int .i64 (k : Int)) (hk : k < n) : (execOp a.eval o).run Try.prog w = .ok (.value (.pointer (some ⟨b, off + k, none⟩))) w := by
  have h1 : (k : Int) < n := by omega
  unfold execOp
  simp only [ho, hx, hi]
  simp [go_sem, h1, Addr.add_mid]
theorem execLdBl {x : Operand} {b f : Nat} {v : Bool} (ho : o.op = .load 4 x) (hx : a.eval x = .pointer (some ⟨b, f, none⟩)) (hc : w.cell? ⟨b, f, none⟩ = some (.bool v)) : (execOp a.eval o).run Try.prog w = .ok (.value (.bool v)) w := by
  unfold execOp
  simp only [ho, hx]
  simp [go_sem, hc]
theorem execStBl {x y : Operand} {b k : Nat} {z : Bool} {old : Value} (ho : o.op = .store 4 x y) (hx : a.eval x = .pointer (some ⟨b, k, none⟩)) (hy : a.eval y = .bool z) (hc : w.cell? ⟨b, k, none⟩ = some old) (hf : w.frozen? ⟨b, k, none⟩ = false) : (execOp a.eval o).run Try.prog w = .ok .skip (w.setCell ⟨b, k, none⟩ (.bool z)) := by
  unfold execOp
  simp only [ho, hx, hy]
  simp [go_sem, hc, hf]
theorem execLtIg {x y : Operand} {p q : Int} (ho : o.op = .binOp .lss 3 x y 3) (hx : a.eval x = .int .i64 p) (hy : a.eval y = .int .i64 q) : (execOp a.eval o).run Try.prog w = .ok (.value (.bool (decide (p < q)))) w := by
  unfold execOp
  simp only [ho, hx, hy]
  by_cases h : p < q
  · simp [go_sem, h]
  · simp [go_sem, h]
theorem execGtIg {x y : Operand} {p q : Int} (ho : o.op = .binOp .gtr 3 x y 3) (hx : a.eval x = .int .i64 p) (hy : a.eval y = .int .i64 q) : (execOp a.eval o).run Try.prog w = .ok (.value (.bool (decide (q < p)))) w := by
  unfold execOp
  simp only [ho, hx, hy]
  by_cases h : q < p
  · simp [go_sem, h]
  · simp [go_sem, h]
theorem execSubIg {x y : Operand} {p q z : Int} (ho : o.op = .binOp .sub 3 x y 3) (hx : a.eval x = .int .i64 p) (hy : a.eval y = .int .i64 q) (h : z = p - q) (h1 : -9223372036854775808 ≤ z) (h2 : z < 9223372036854775808) : (execOp a.eval o).run Try.prog w = .ok (.value (.int .i64 z)) w := by
  subst h
  unfold execOp
  simp only [ho, hx, hy]
  simp [go_sem, IntKind.wrap, show IntKind.i64.signed = true from rfl]
  omega
end
theorem own_mkBl (W : World) (n : Nat) (s : Nat → Bool) (hn : n ≤ 140737488355328) (hs : ∀ j, j < n → s j = false) : (W.alloc (.cells (madeCells #[.bool false] n) 4)).ownsRow W.heap.size 4 1 (.slice (some ⟨W.heap.size, 0, none⟩) n n) n (boolsL n s) := by
  refine ⟨by rw [boolsL_len, Nat.mul_one], Or.inr ⟨W.heap.size, n, _, rfl, Nat.le_refl _, heapNew W _, Nat.le_refl _, by unfold maxLen; omega, by simp [madeCells], ?_⟩⟩
  apply List.ext_getElem?
  intro j
  by_cases h : j < n
  · simp [madeCells, boolsL, h, hs j h, Nat.mod_one]
  · simp [madeCells, boolsL, h]
theorem own_cellBl {W : World} {B n g cap j : Nat} {s : Nat → Bool} (h : W.ownsRow B 4 1 (.slice (some ⟨g, 0, none⟩) n cap) n (boolsL n s)) (hj : j < n) : W.cell? ⟨g, 0 + j, none⟩ = some (.bool (s j)) ∧ W.frozen? ⟨g, 0 + j, none⟩ = false := by
  rw [Nat.zero_add]
  rcases h.2 with ⟨e, _⟩ | ⟨g', cap', cur, e, _, hg, h1, h2, h3, h4⟩
  · cases e
  · injection e with e1 _ _
    injection e1 with e1
    injection e1 with e1 _ _
    subst e1
    refine ⟨?_, frozen4 hg⟩
    rw [cell_of_row _ _ _ _ _ _ hg, ← Array.getElem?_toList]
    have h5 : (cur.toList.take (n * 1))[j]? = some (.bool (s j)) := by rw [h4]; exact boolsL_get hj
    rw [List.getElem?_take_of_lt (by omega)] at h5
    exact h5
theorem own_setBl {W : World} {B n g cap k : Nat} {s : Nat → Bool} (z : Bool) (h : W.ownsRow B 4 1 (.slice (some ⟨g, 0, none⟩) n cap) n (boolsL n s)) : (W.setCell ⟨g, 0 + k, none⟩ (.bool z)).ownsRow B 4 1 (.slice (some ⟨g, 0, none⟩) n cap) n (boolsL n (fun j => if j = k then z else s j)) := by
  rw [Nat.zero_add]
  refine ⟨by rw [boolsL_len, Nat.mul_one], ?_⟩
  rcases h.2 with ⟨e, _⟩ | ⟨g', cap', cur, e, hB, hg, h1, h2, h3, h4⟩
  · cases e
  · injection e with e1 e2 e3
    injection e1 with e1
    injection e1 with e1 _ _
    subst e1
    subst e3
    refine Or.inr ⟨g, cap, cur.setIfInBounds k (.bool z), rfl, hB, heap4 _ hg, h1, h2, by simpa using h3, ?_⟩
    apply List.ext_getElem?
    intro j
    have h5 : (cur.toList.take (n * 1))[j]? = (boolsL n s)[j]? := by rw [h4]
    by_cases hj : j < n
    · rw [List.getElem?_take_of_lt (by omega), boolsL_get hj] at h5
      rw [List.getElem?_take_of_lt (by omega), boolsL_get hj, Array.getElem?_toList, Array.getElem?_setIfInBounds]
      by_cases hk : k = j
      · subst hk
        rw [if_pos rfl, if_pos rfl, if_pos (by simp at h3; omega)]
      · rw [if_neg hk, if_neg (fun q => hk q.symm), ← Array.getElem?_toList]
        exact h5
    · rw [List.getElem?_eq_none (by simp; omega), List.getElem?_eq_none (by rw [boolsL_len]; omega)]
theorem seen_set {W : World} {B n g cap i w : Nat} {f : Nat → Int} (h : W.ownsRow B 4 1 (.slice (some ⟨g, 0, none⟩) n cap) n (boolsL n (fun j => inI f (j : Int) i))) (e : f i = (w : Int)) : (W.setCell ⟨g, 0 + w, none⟩ (.bool true)).ownsRow B 4 1 (.slice (some ⟨g, 0, none⟩) n cap) n (boolsL n (fun j => inI f (j : Int) (i + 1))) := by
  have h2 := own_setBl (k := w) true h
  rw [boolsL_congr (g := fun j => inI f (j : Int) (i + 1)) (fun j _ => ?_)] at h2
  · exact h2
  · show _ = (inI f (j : Int) i || decide (f i = (j : Int)))
    by_cases q : j = w
    · subst q
      rw [if_pos rfl, decide_eq_true e, Bool.or_true]
    · rw [if_neg q, decide_eq_false (by omega), Bool.or_false]
set_option maxRecDepth 100000 in
set_option maxHeartbeats 4000000 in
/-- The reference's Check. -/
theorem rcheck (f : Nat → Int) (n : Nat) (v : Value) (V : World) (hv : SliceI V v n f) (hn : n ≤ 17592186044416) :
    Calls Try.prog 33 #[v] V fun e w' => e = .returned (.int .i64 ((pE f n : Nat) : Int)) ∧ Below V.heap.size V w' := by
  obtain ⟨ia, ic, rfl, -, -, hsh⟩ := id hv.shape
  have FI := hv
  go_enter Try.func33, Try.ntmps33
  refine wp_seq ?_
  refine wp_region_sqK 43 [(0, 2)] (fun i_ => match i_ with | 0 => .int .i64 ((0 : Nat) : Int) | _ => undef) rfl (by kernel_rfl) (by decide) (by decide) ?_ ?_
  · intro i_ hi_ a hf hv hn
    match i_, hi_ with
    | 0, _ => exact stepV rfl rfl (execAsgB rfl rfl) ⟨⟨_, rfl, rfl⟩, rfl⟩
    | k_ + 1, h_ => exact absurd h_ (by simp)
  intro a h1 h2 h3 h4
  have t0 : a.eval (.tmp 0) = .slice ia n ic := (h3 0 (by decide)).trans rfl
  have A : a.tmps.size = 43 ∧ a.defers = [] := ⟨h1, h2⟩
  have BW : Below V.heap.size V V := Below.refl _ _
  clear h1 h2 h3 h4
  have BB := BW
  refine wp_seq ?_
  refine wp_region_sq (σ := Nat) 43 [(0, 5), (1, 6), (2, 7), (3, 3)] (fun j_ s X => match j_ with | 0 => Below V.heap.size V X | 1 => Below V.heap.size V X | 2 => Below V.heap.size V X | 3 => Below V.heap.size V X ∧ (X.ownsRow V.heap.size 4 1 (.slice (some ⟨s, 0, none⟩) n n) (n) (boolsL (n) (fun j => inI f (j : Int) 0))) ∧ (V.heap.size ≤ s) | _ => Below V.heap.size V X ∧ (X.ownsRow V.heap.size 4 1 (.slice (some ⟨s, 0, none⟩) n n) (n) (boolsL (n) (fun j => inI f (j : Int) 0))) ∧ (V.heap.size ≤ s)) (fun s => fun i_ => match i_ with | 0 => .slice ia n ic | 1 => .int .i64 ((n : Nat) : Int) | 2 => .slice (some ⟨s, 0, none⟩) n n | 3 => .slice (some ⟨s, 0, none⟩) n n | _ => undef) 0 A.1 (by kernel_rfl) (by decide) (by decide) (BB) ?_ ?_
  · intro i_ hi_ s a X hf hv hn hS
    match i_, hi_ with
    | 0, _ => exact stepV rfl rfl (execMvB rfl ((hf 0 (by decide)).trans t0)) ⟨s, ⟨_, rfl, rfl⟩, hS, fun _ _ => rfl⟩
    | 1, _ => exact stepV rfl rfl (execLenI (len := n) rfl (hv 0 (by omega) _ rfl _ rfl) ((FI.on hS)).shp) ⟨s, ⟨_, rfl, rfl⟩, hS, fun _ _ => rfl⟩
    | 2, _ =>
      refine stepV rfl rfl (execMkBl rfl (hv 1 (by omega) _ rfl _ rfl) (hv 1 (by omega) _ rfl _ rfl) (by omega)) ⟨X.heap.size, ⟨_, rfl, rfl⟩, ⟨(hS).trans (((belNew X _)).mono (hS).size), ownD_base (own_mkBl X n _ (by omega) (fun _ _ => rfl)) (hS).size, (hS).size⟩, fun i hi => ?_⟩
      match i, hi with
      | 0, _ => rfl
      | 1, _ => rfl
      | n_ + 2, h_ => omega
    | 3, _ => exact stepV rfl rfl (execAsgB rfl (hv 2 (by omega) _ rfl _ rfl)) ⟨s, ⟨_, rfl, rfl⟩, hS, fun _ _ => rfl⟩
    | k_ + 4, h_ => exact absurd h_ (by simp)
  rintro g3 a X1 h1 h2 h3 h4 hS
  clear BB
  replace hS : Below V.heap.size V X1 ∧ (X1.ownsRow V.heap.size 4 1 (.slice (some ⟨g3, 0, none⟩) n n) (n) (boolsL (n) (fun j => inI f (j : Int) 0))) ∧ (V.heap.size ≤ g3) := hS
  obtain ⟨BB, FXs, Fg⟩ := hS
  replace t0 := (h3 0 (by decide)).trans t0
  have t3 : a.eval (.tmp 3) = .slice (some ⟨g3, 0, none⟩) n n := h4 3 _ rfl _ rfl
  replace A := (⟨h1, h2.trans A.2⟩ : a.tmps.size = 43 ∧ a.defers = [])
  clear h1 h2 h3 h4
  refine wp_seq ?_
  refine wp_seq ?_
  refine wp_region_sq (σ := Unit) 43 [(0, 4)] (fun j_ s X => match j_ with | 0 => Below V.heap.size V X ∧ (X.ownsRow V.heap.size 4 1 (.slice (some ⟨g3, 0, none⟩) n n) (n) (boolsL (n) (fun j => inI f (j : Int) 0))) ∧ (V.heap.size ≤ g3) | _ => Below V.heap.size V X ∧ (X.ownsRow V.heap.size 4 1 (.slice (some ⟨g3, 0, none⟩) n n) (n) (boolsL (n) (fun j => inI f (j : Int) 0))) ∧ (V.heap.size ≤ g3)) (fun s => fun i_ => match i_ with | 0 => .int .i64 ((0 : Nat) : Int) | _ => undef) () A.1 (by kernel_rfl) (by decide) (by decide) ⟨BB, FXs, Fg⟩ ?_ ?_
  · intro i_ hi_ s a X hf hv hn hS
    match i_, hi_ with
    | 0, _ => exact stepV rfl rfl (execAsgB rfl rfl) ⟨s, ⟨_, rfl, rfl⟩, hS, fun _ _ => rfl⟩
    | k_ + 1, h_ => exact absurd h_ (by simp)
  rintro _ a X2 h1 h2 h3 h4 hS
  clear BB
  clear FXs
  clear Fg
  replace hS : Below V.heap.size V X2 ∧ (X2.ownsRow V.heap.size 4 1 (.slice (some ⟨g3, 0, none⟩) n n) (n) (boolsL (n) (fun j => inI f (j : Int) 0))) ∧ (V.heap.size ≤ g3) := hS
  obtain ⟨BB, FXs, Fg⟩ := hS
  replace t0 := (h3 0 (by decide)).trans t0
  replace t3 := (h3 3 (by decide)).trans t3
  have t4 : a.eval (.tmp 4) = .int .i64 ((0 : Nat) : Int) := h4 0 _ rfl _ rfl
  replace A := (⟨h1, h2.trans A.2⟩ : a.tmps.size = 43 ∧ a.defers = [])
  clear h1 h2 h3 h4
  refine wp_block ?_
  refine wp_loop (fun a W => ∃ (i : Nat), i ≤ n ∧ (okQ f n i = true) ∧ (a.tmps.size = 43 ∧ a.defers = []) ∧ a.eval (.tmp 0) = .slice ia n ic ∧ a.eval (.tmp 3) = .slice (some ⟨g3, 0, none⟩) n n ∧ a.eval (.tmp 4) = .int .i64 ((i : Nat) : Int) ∧ Below V.heap.size V W ∧ (W.ownsRow V.heap.size 4 1 (.slice (some ⟨g3, 0, none⟩) n n) (n) (boolsL (n) (fun j => inI f (j : Int) i)))) (fun a _ => n - (intOf (a.eval (.tmp 4))).toNat) ⟨0, Nat.zero_le _, rfl, A, t0, t3, t4, BB, FXs⟩ ?_
  clear A t0 t3 t4 BB FXs a
  rintro a XL3 ⟨i, hi, hok, A, t0, t3, t4, BB, FXs⟩
  have es := t4
  refine wp_seq ?_
  refine wp_seq ?_
  refine wp_region_sq (σ := Unit) 43 [(0, 8), (1, 9), (2, 10), (3, 11)] (fun j_ s X => match j_ with | 0 => Below V.heap.size V X ∧ (X.ownsRow V.heap.size 4 1 (.slice (some ⟨g3, 0, none⟩) n n) (n) (boolsL (n) (fun j => inI f (j : Int) i))) | 1 => Below V.heap.size V X ∧ (X.ownsRow V.heap.size 4 1 (.slice (some ⟨g3, 0, none⟩) n n) (n) (boolsL (n) (fun j => inI f (j : Int) i))) | 2 => Below V.heap.size V X ∧ (X.ownsRow V.heap.size 4 1 (.slice (some ⟨g3, 0, none⟩) n n) (n) (boolsL (n) (fun j => inI f (j : Int) i))) | 3 => Below V.heap.size V X ∧ (X.ownsRow V.heap.size 4 1 (.slice (some ⟨g3, 0, none⟩) n n) (n) (boolsL (n) (fun j => inI f (j : Int) i))) | _ => Below V.heap.size V X ∧ (X.ownsRow V.heap.size 4 1 (.slice (some ⟨g3, 0, none⟩) n n) (n) (boolsL (n) (fun j => inI f (j : Int) i)))) (fun s => fun i_ => match i_ with | 0 => .int .i64 ((i : Nat) : Int) | 1 => .slice ia n ic | 2 => .int .i64 ((n : Nat) : Int) | 3 => .bool (decide (i < n)) | _ => undef) () A.1 (by kernel_rfl) (by decide) (by decide) ⟨BB, FXs⟩ ?_ ?_
  · intro i_ hi_ s a X hf hv hn hS
    match i_, hi_ with
    | 0, _ => exact stepV rfl rfl (execMvB rfl ((hf 4 (by decide)).trans t4)) ⟨s, ⟨_, rfl, rfl⟩, hS, fun _ _ => rfl⟩
    | 1, _ => exact stepV rfl rfl (execMvB rfl ((hf 0 (by decide)).trans t0)) ⟨s, ⟨_, rfl, rfl⟩, hS, fun _ _ => rfl⟩
    | 2, _ => exact stepV rfl rfl (execLenI (len := n) rfl (hv 1 (by omega) _ rfl _ rfl) ((FI.on hS.1)).shp) ⟨s, ⟨_, rfl, rfl⟩, hS, fun _ _ => rfl⟩
    | 3, _ => exact stepV rfl rfl (execLtW (p := i) (q := n) rfl (hv 0 (by omega) _ rfl _ rfl) (hv 2 (by omega) _ rfl _ rfl)) ⟨s, ⟨_, rfl, rfl⟩, hS, fun _ _ => rfl⟩
    | k_ + 4, h_ => exact absurd h_ (by simp)
  rintro _ a X3 h1 h2 h3 h4 hS
  clear BB
  clear FXs
  replace hS : Below V.heap.size V X3 ∧ (X3.ownsRow V.heap.size 4 1 (.slice (some ⟨g3, 0, none⟩) n n) (n) (boolsL (n) (fun j => inI f (j : Int) i))) := hS
  obtain ⟨BB, FXs⟩ := hS
  replace t0 := (h3 0 (by decide)).trans t0
  replace t3 := (h3 3 (by decide)).trans t3
  replace t4 := (h3 4 (by decide)).trans t4
  have t11 : a.eval (.tmp 11) = .bool (decide (i < n)) := h4 3 _ rfl _ rfl
  replace A := (⟨h1, h2.trans A.2⟩ : a.tmps.size = 43 ∧ a.defers = [])
  clear h1 h2 h3 h4
  by_cases hlt : i < n
  · rw [decide_eq_true hlt] at t11
    refine wp_cond_true t11 ?_
    refine wp_skip ?_
    clear t11
    refine wp_seq ?_
    refine wp_block ?_
    obtain ⟨ib, io, rfl, hib, hcell⟩ := hsh (by omega)
    have cI : ∀ k, k < n → ∀ X, Below V.heap.size V X → X.cell? ⟨ib, io + k, none⟩ = some (.int .i64 (f k)) := fun k hk X hX => by rw [cell_below hX hib]; exact hcell k hk
    by_cases h1 : f i < 0
    · refine wp_seq ?_
      refine wp_seq ?_
      refine wp_region_sq (σ := Unit) 43 [(0, 14), (1, 15), (2, 16), (3, 17), (4, 18), (5, 19), (6, 20), (7, 21), (8, 22), (9, 23), (10, 24), (11, 25), (12, 26), (13, 27), (14, 28), (15, 29), (16, 30), (17, 31), (18, 32), (19, 33), (20, 34), (21, 35), (22, 36)] (fun j_ s X => match j_ with | 0 => Below V.heap.size V X ∧ (X.ownsRow V.heap.size 4 1 (.slice (some ⟨g3, 0, none⟩) n n) (n) (boolsL (n) (fun j => inI f (j : Int) i))) | 1 => Below V.heap.size V X ∧ (X.ownsRow V.heap.size 4 1 (.slice (some ⟨g3, 0, none⟩) n n) (n) (boolsL (n) (fun j => inI f (j : Int) i))) | 2 => Below V.heap.size V X ∧ (X.ownsRow V.heap.size 4 1 (.slice (some ⟨g3, 0, none⟩) n n) (n) (boolsL (n) (fun j => inI f (j : Int) i))) | 3 => Below V.heap.size V X ∧ (X.ownsRow V.heap.size 4 1 (.slice (some ⟨g3, 0, none⟩) n n) (n) (boolsL (n) (fun j => inI f (j : Int) i))) | 4 => Below V.heap.size V X ∧ (X.ownsRow V.heap.size 4 1 (.slice (some ⟨g3, 0, none⟩) n n) (n) (boolsL (n) (fun j => inI f (j : Int) i))) | 5 => Below V.heap.size V X ∧ (X.ownsRow V.heap.size 4 1 (.slice (some ⟨g3, 0, none⟩) n n) (n) (boolsL (n) (fun j => inI f (j : Int) i))) | 6 => Below V.heap.size V X ∧ (X.ownsRow V.heap.size 4 1 (.slice (some ⟨g3, 0, none⟩) n n) (n) (boolsL (n) (fun j => inI f (j : Int) i))) | 7 => Below V.heap.size V X ∧ (X.ownsRow V.heap.size 4 1 (.slice (some ⟨g3, 0, none⟩) n n) (n) (boolsL (n) (fun j => inI f (j : Int) i))) | 8 => Below V.heap.size V X ∧ (X.ownsRow V.heap.size 4 1 (.slice (some ⟨g3, 0, none⟩) n n) (n) (boolsL (n) (fun j => inI f (j : Int) i))) | 9 => Below V.heap.size V X ∧ (X.ownsRow V.heap.size 4 1 (.slice (some ⟨g3, 0, none⟩) n n) (n) (boolsL (n) (fun j => inI f (j : Int) i))) | 10 => Below V.heap.size V X ∧ (X.ownsRow V.heap.size 4 1 (.slice (some ⟨g3, 0, none⟩) n n) (n) (boolsL (n) (fun j => inI f (j : Int) i))) | 11 => Below V.heap.size V X ∧ (X.ownsRow V.heap.size 4 1 (.slice (some ⟨g3, 0, none⟩) n n) (n) (boolsL (n) (fun j => inI f (j : Int) i))) | 12 => Below V.heap.size V X ∧ (X.ownsRow V.heap.size 4 1 (.slice (some ⟨g3, 0, none⟩) n n) (n) (boolsL (n) (fun j => inI f (j : Int) i))) | 13 => Below V.heap.size V X ∧ (X.ownsRow V.heap.size 4 1 (.slice (some ⟨g3, 0, none⟩) n n) (n) (boolsL (n) (fun j => inI f (j : Int) i))) | 14 => Below V.heap.size V X ∧ (X.ownsRow V.heap.size 4 1 (.slice (some ⟨g3, 0, none⟩) n n) (n) (boolsL (n) (fun j => inI f (j : Int) i))) | 15 => Below V.heap.size V X ∧ (X.ownsRow V.heap.size 4 1 (.slice (some ⟨g3, 0, none⟩) n n) (n) (boolsL (n) (fun j => inI f (j : Int) i))) | 16 => Below V.heap.size V X ∧ (X.ownsRow V.heap.size 4 1 (.slice (some ⟨g3, 0, none⟩) n n) (n) (boolsL (n) (fun j => inI f (j : Int) i))) | 17 => Below V.heap.size V X ∧ (X.ownsRow V.heap.size 4 1 (.slice (some ⟨g3, 0, none⟩) n n) (n) (boolsL (n) (fun j => inI f (j : Int) i))) | 18 => Below V.heap.size V X ∧ (X.ownsRow V.heap.size 4 1 (.slice (some ⟨g3, 0, none⟩) n n) (n) (boolsL (n) (fun j => inI f (j : Int) i))) | 19 => Below V.heap.size V X ∧ (X.ownsRow V.heap.size 4 1 (.slice (some ⟨g3, 0, none⟩) n n) (n) (boolsL (n) (fun j => inI f (j : Int) i))) | 20 => Below V.heap.size V X ∧ (X.ownsRow V.heap.size 4 1 (.slice (some ⟨g3, 0, none⟩) n n) (n) (boolsL (n) (fun j => inI f (j : Int) i))) | 21 => Below V.heap.size V X ∧ (X.ownsRow V.heap.size 4 1 (.slice (some ⟨g3, 0, none⟩) n n) (n) (boolsL (n) (fun j => inI f (j : Int) i))) | 22 => Below V.heap.size V X ∧ (X.ownsRow V.heap.size 4 1 (.slice (some ⟨g3, 0, none⟩) n n) (n) (boolsL (n) (fun j => inI f (j : Int) i))) | _ => Below V.heap.size V X ∧ (X.ownsRow V.heap.size 4 1 (.slice (some ⟨g3, 0, none⟩) n n) (n) (boolsL (n) (fun j => inI f (j : Int) i)))) (fun s => fun i_ => match i_ with | 0 => .slice (some ⟨ib, io, none⟩) n ic | 1 => .int .i64 ((i : Nat) : Int) | 2 => .pointer (some ⟨ib, io + i, none⟩) | 3 => .int .i64 (f i) | 4 => .bool true | 5 => .bool true | 6 => undef | 7 => undef | 8 => undef | 9 => undef | 10 => undef | 11 => undef | 12 => undef | 13 => .bool true | 14 => .bool true | 15 => undef | 16 => undef | 17 => undef | 18 => undef | 19 => undef | 20 => undef | 21 => undef | 22 => .bool true | _ => undef) () A.1 (by kernel_rfl) (by decide) (by decide) ⟨BB, FXs⟩ ?_ ?_
      · intro i_ hi_ s a X hf hv hn hS
        match i_, hi_ with
        | 0, _ => exact stepV rfl rfl (execMvB rfl ((hf 0 (by decide)).trans t0)) ⟨s, ⟨_, rfl, rfl⟩, hS, fun _ _ => rfl⟩
        | 1, _ => exact stepV rfl rfl (execMvB rfl ((hf 4 (by decide)).trans t4)) ⟨s, ⟨_, rfl, rfl⟩, hS, fun _ _ => rfl⟩
        | 2, _ => exact stepV rfl rfl (execIdxN (k := i) rfl (hv 0 (by omega) _ rfl _ rfl) (hv 1 (by omega) _ rfl _ rfl) hlt) ⟨s, ⟨_, rfl, rfl⟩, hS, fun _ _ => rfl⟩
        | 3, _ => exact stepV rfl rfl (execLd3 rfl (hv 2 (by omega) _ rfl _ rfl) (cI i hlt X hS.1)) ⟨s, ⟨_, rfl, rfl⟩, hS, fun _ _ => rfl⟩
        | 4, _ => exact stepV rfl rfl (execLtCt (p := (f i)) (q := 0) rfl (hv 3 (by omega) _ rfl _ rfl) (by exact h1)) ⟨s, ⟨_, rfl, rfl⟩, hS, fun _ _ => rfl⟩
        | 5, _ => exact stepV rfl rfl (execMvB rfl (hv 4 (by omega) _ rfl _ rfl)) ⟨s, ⟨_, rfl, rfl⟩, hS, fun _ _ => rfl⟩
        | 6, _ => exact stepU rfl (unwantedOf rfl (yieldedAt rfl rfl (show a.eval (.tmp 19) = .bool (!false) from (hv 5 (by omega) _ rfl _ rfl)))) ⟨s, ⟨_, rfl, rfl⟩, hS, fun _ _ => rfl⟩
        | 7, _ => exact stepU rfl (unwantedOf rfl (yieldedAt rfl rfl (show a.eval (.tmp 19) = .bool (!false) from (hv 5 (by omega) _ rfl _ rfl)))) ⟨s, ⟨_, rfl, rfl⟩, hS, fun _ _ => rfl⟩
        | 8, _ => exact stepU rfl (unwantedOf rfl (yieldedAt rfl rfl (show a.eval (.tmp 19) = .bool (!false) from (hv 5 (by omega) _ rfl _ rfl)))) ⟨s, ⟨_, rfl, rfl⟩, hS, fun _ _ => rfl⟩
        | 9, _ => exact stepU rfl (unwantedOf rfl (yieldedAt rfl rfl (show a.eval (.tmp 19) = .bool (!false) from (hv 5 (by omega) _ rfl _ rfl)))) ⟨s, ⟨_, rfl, rfl⟩, hS, fun _ _ => rfl⟩
        | 10, _ => exact stepU rfl (unwantedOf rfl (yieldedAt rfl rfl (show a.eval (.tmp 19) = .bool (!false) from (hv 5 (by omega) _ rfl _ rfl)))) ⟨s, ⟨_, rfl, rfl⟩, hS, fun _ _ => rfl⟩
        | 11, _ => exact stepU rfl (unwantedOf rfl (yieldedAt rfl rfl (show a.eval (.tmp 19) = .bool (!false) from (hv 5 (by omega) _ rfl _ rfl)))) ⟨s, ⟨_, rfl, rfl⟩, hS, fun _ _ => rfl⟩
        | 12, _ => exact stepU rfl (unwantedOf rfl (yieldedAt rfl rfl (show a.eval (.tmp 19) = .bool (!false) from (hv 5 (by omega) _ rfl _ rfl)))) ⟨s, ⟨_, rfl, rfl⟩, hS, fun _ _ => rfl⟩
        | 13, _ => exact stepV rfl rfl (execPickT rfl (hv 5 (by omega) _ rfl _ rfl) rfl) ⟨s, ⟨_, rfl, rfl⟩, hS, fun _ _ => rfl⟩
        | 14, _ => exact stepV rfl rfl (execMvB rfl (hv 13 (by omega) _ rfl _ rfl)) ⟨s, ⟨_, rfl, rfl⟩, hS, fun _ _ => rfl⟩
        | 15, _ => exact stepU rfl (unwantedOf rfl (yieldedAt rfl rfl (show a.eval (.tmp 28) = .bool (!false) from (hv 14 (by omega) _ rfl _ rfl)))) ⟨s, ⟨_, rfl, rfl⟩, hS, fun _ _ => rfl⟩
        | 16, _ => exact stepU rfl (unwantedOf rfl (yieldedAt rfl rfl (show a.eval (.tmp 28) = .bool (!false) from (hv 14 (by omega) _ rfl _ rfl)))) ⟨s, ⟨_, rfl, rfl⟩, hS, fun _ _ => rfl⟩
        | 17, _ => exact stepU rfl (unwantedOf rfl (yieldedAt rfl rfl (show a.eval (.tmp 28) = .bool (!false) from (hv 14 (by omega) _ rfl _ rfl)))) ⟨s, ⟨_, rfl, rfl⟩, hS, fun _ _ => rfl⟩
        | 18, _ => exact stepU rfl (unwantedOf rfl (yieldedAt rfl rfl (show a.eval (.tmp 28) = .bool (!false) from (hv 14 (by omega) _ rfl _ rfl)))) ⟨s, ⟨_, rfl, rfl⟩, hS, fun _ _ => rfl⟩
        | 19, _ => exact stepU rfl (unwantedOf rfl (yieldedAt rfl rfl (show a.eval (.tmp 28) = .bool (!false) from (hv 14 (by omega) _ rfl _ rfl)))) ⟨s, ⟨_, rfl, rfl⟩, hS, fun _ _ => rfl⟩
        | 20, _ => exact stepU rfl (unwantedOf rfl (yieldedAt rfl rfl (show a.eval (.tmp 28) = .bool (!false) from (hv 14 (by omega) _ rfl _ rfl)))) ⟨s, ⟨_, rfl, rfl⟩, hS, fun _ _ => rfl⟩
        | 21, _ => exact stepU rfl (unwantedOf rfl (yieldedAt rfl rfl (show a.eval (.tmp 28) = .bool (!false) from (hv 14 (by omega) _ rfl _ rfl)))) ⟨s, ⟨_, rfl, rfl⟩, hS, fun _ _ => rfl⟩
        | 22, _ => exact stepV rfl rfl (execPickT rfl (hv 14 (by omega) _ rfl _ rfl) rfl) ⟨s, ⟨_, rfl, rfl⟩, hS, fun _ _ => rfl⟩
        | k_ + 23, h_ => exact absurd h_ (by simp)
      rintro _ a X5 h1 h2 h3 h4 hS
      clear BB
      clear FXs
      replace hS : Below V.heap.size V X5 ∧ (X5.ownsRow V.heap.size 4 1 (.slice (some ⟨g3, 0, none⟩) n n) (n) (boolsL (n) (fun j => inI f (j : Int) i))) := hS
      obtain ⟨BB, FXs⟩ := hS
      replace t0 := (h3 0 (by decide)).trans t0
      replace t3 := (h3 3 (by decide)).trans t3
      replace t4 := (h3 4 (by decide)).trans t4
      have t36 : a.eval (.tmp 36) = .bool true := h4 22 _ rfl _ rfl
      replace A := (⟨h1, h2.trans A.2⟩ : a.tmps.size = 43 ∧ a.defers = [])
      clear h1 h2 h3 h4
      refine wp_cond_true t36 ?_
      refine wp_seq ?_
      refine wp_region_sq (σ := Unit) 43 [(0, 2)] (fun j_ s X => match j_ with | 0 => Below V.heap.size V X ∧ (X.ownsRow V.heap.size 4 1 (.slice (some ⟨g3, 0, none⟩) n n) (n) (boolsL (n) (fun j => inI f (j : Int) i))) | _ => Below V.heap.size V X ∧ (X.ownsRow V.heap.size 4 1 (.slice (some ⟨g3, 0, none⟩) n n) (n) (boolsL (n) (fun j => inI f (j : Int) i)))) (fun s => fun i_ => match i_ with | 0 => .int .i64 ((110 : Nat) : Int) | _ => undef) () A.1 (by kernel_rfl) (by decide) (by decide) ⟨BB, FXs⟩ ?_ ?_
      · intro i_ hi_ s a X hf hv hn hS
        match i_, hi_ with
        | 0, _ => exact stepV rfl rfl (execAsgB rfl rfl) ⟨s, ⟨_, rfl, rfl⟩, hS, fun _ _ => rfl⟩
        | k_ + 1, h_ => exact absurd h_ (by simp)
      rintro _ a X6 h1 h2 h3 h4 hS
      clear BB
      clear FXs
      replace hS : Below V.heap.size V X6 ∧ (X6.ownsRow V.heap.size 4 1 (.slice (some ⟨g3, 0, none⟩) n n) (n) (boolsL (n) (fun j => inI f (j : Int) i))) := hS
      obtain ⟨BB, FXs⟩ := hS
      have t2 : a.eval (.tmp 2) = .int .i64 ((110 : Nat) : Int) := h4 0 _ rfl _ rfl
      replace A := (⟨h1, h2.trans A.2⟩ : a.tmps.size = 43 ∧ a.defers = [])
      clear h1 h2 h3 h4
      clear t0 t3 t4 t36
      have hE : pE f n = 110 := pE_bad hlt (Or.inl h1)
      rw [hE]
      refine wp_ret ?_
      repeat (first | refine ret_in ?_ | refine ret_then ?_)
      refine bodyPost_ret (results_tmp rfl _ _ _) A.2 ⟨?_, BB⟩
      show Ending.returned (a.eval (.tmp 2)) = _
      rw [t2]
    · by_cases h2 : (n : Int) ≤ f i
      · obtain ⟨w, ew⟩ : ∃ w : Nat, f i = w := ⟨(f i).toNat, by omega⟩
        have cW : ∀ X, Below V.heap.size V X → X.cell? ⟨ib, io + i, none⟩ = some (.int .i64 ((w : Nat) : Int)) := fun X hX => by rw [cI i hlt X hX, ew]
        refine wp_seq ?_
        refine wp_seq ?_
        refine wp_region_sq (σ := Unit) 43 [(0, 14), (1, 15), (2, 16), (3, 17), (4, 18), (5, 19), (6, 20), (7, 21), (8, 22), (9, 23), (10, 24), (11, 25), (12, 26), (13, 27), (14, 28), (15, 29), (16, 30), (17, 31), (18, 32), (19, 33), (20, 34), (21, 35), (22, 36)] (fun j_ s X => match j_ with | 0 => Below V.heap.size V X ∧ (X.ownsRow V.heap.size 4 1 (.slice (some ⟨g3, 0, none⟩) n n) (n) (boolsL (n) (fun j => inI f (j : Int) i))) | 1 => Below V.heap.size V X ∧ (X.ownsRow V.heap.size 4 1 (.slice (some ⟨g3, 0, none⟩) n n) (n) (boolsL (n) (fun j => inI f (j : Int) i))) | 2 => Below V.heap.size V X ∧ (X.ownsRow V.heap.size 4 1 (.slice (some ⟨g3, 0, none⟩) n n) (n) (boolsL (n) (fun j => inI f (j : Int) i))) | 3 => Below V.heap.size V X ∧ (X.ownsRow V.heap.size 4 1 (.slice (some ⟨g3, 0, none⟩) n n) (n) (boolsL (n) (fun j => inI f (j : Int) i))) | 4 => Below V.heap.size V X ∧ (X.ownsRow V.heap.size 4 1 (.slice (some ⟨g3, 0, none⟩) n n) (n) (boolsL (n) (fun j => inI f (j : Int) i))) | 5 => Below V.heap.size V X ∧ (X.ownsRow V.heap.size 4 1 (.slice (some ⟨g3, 0, none⟩) n n) (n) (boolsL (n) (fun j => inI f (j : Int) i))) | 6 => Below V.heap.size V X ∧ (X.ownsRow V.heap.size 4 1 (.slice (some ⟨g3, 0, none⟩) n n) (n) (boolsL (n) (fun j => inI f (j : Int) i))) | 7 => Below V.heap.size V X ∧ (X.ownsRow V.heap.size 4 1 (.slice (some ⟨g3, 0, none⟩) n n) (n) (boolsL (n) (fun j => inI f (j : Int) i))) | 8 => Below V.heap.size V X ∧ (X.ownsRow V.heap.size 4 1 (.slice (some ⟨g3, 0, none⟩) n n) (n) (boolsL (n) (fun j => inI f (j : Int) i))) | 9 => Below V.heap.size V X ∧ (X.ownsRow V.heap.size 4 1 (.slice (some ⟨g3, 0, none⟩) n n) (n) (boolsL (n) (fun j => inI f (j : Int) i))) | 10 => Below V.heap.size V X ∧ (X.ownsRow V.heap.size 4 1 (.slice (some ⟨g3, 0, none⟩) n n) (n) (boolsL (n) (fun j => inI f (j : Int) i))) | 11 => Below V.heap.size V X ∧ (X.ownsRow V.heap.size 4 1 (.slice (some ⟨g3, 0, none⟩) n n) (n) (boolsL (n) (fun j => inI f (j : Int) i))) | 12 => Below V.heap.size V X ∧ (X.ownsRow V.heap.size 4 1 (.slice (some ⟨g3, 0, none⟩) n n) (n) (boolsL (n) (fun j => inI f (j : Int) i))) | 13 => Below V.heap.size V X ∧ (X.ownsRow V.heap.size 4 1 (.slice (some ⟨g3, 0, none⟩) n n) (n) (boolsL (n) (fun j => inI f (j : Int) i))) | 14 => Below V.heap.size V X ∧ (X.ownsRow V.heap.size 4 1 (.slice (some ⟨g3, 0, none⟩) n n) (n) (boolsL (n) (fun j => inI f (j : Int) i))) | 15 => Below V.heap.size V X ∧ (X.ownsRow V.heap.size 4 1 (.slice (some ⟨g3, 0, none⟩) n n) (n) (boolsL (n) (fun j => inI f (j : Int) i))) | 16 => Below V.heap.size V X ∧ (X.ownsRow V.heap.size 4 1 (.slice (some ⟨g3, 0, none⟩) n n) (n) (boolsL (n) (fun j => inI f (j : Int) i))) | 17 => Below V.heap.size V X ∧ (X.ownsRow V.heap.size 4 1 (.slice (some ⟨g3, 0, none⟩) n n) (n) (boolsL (n) (fun j => inI f (j : Int) i))) | 18 => Below V.heap.size V X ∧ (X.ownsRow V.heap.size 4 1 (.slice (some ⟨g3, 0, none⟩) n n) (n) (boolsL (n) (fun j => inI f (j : Int) i))) | 19 => Below V.heap.size V X ∧ (X.ownsRow V.heap.size 4 1 (.slice (some ⟨g3, 0, none⟩) n n) (n) (boolsL (n) (fun j => inI f (j : Int) i))) | 20 => Below V.heap.size V X ∧ (X.ownsRow V.heap.size 4 1 (.slice (some ⟨g3, 0, none⟩) n n) (n) (boolsL (n) (fun j => inI f (j : Int) i))) | 21 => Below V.heap.size V X ∧ (X.ownsRow V.heap.size 4 1 (.slice (some ⟨g3, 0, none⟩) n n) (n) (boolsL (n) (fun j => inI f (j : Int) i))) | 22 => Below V.heap.size V X ∧ (X.ownsRow V.heap.size 4 1 (.slice (some ⟨g3, 0, none⟩) n n) (n) (boolsL (n) (fun j => inI f (j : Int) i))) | _ => Below V.heap.size V X ∧ (X.ownsRow V.heap.size 4 1 (.slice (some ⟨g3, 0, none⟩) n n) (n) (boolsL (n) (fun j => inI f (j : Int) i)))) (fun s => fun i_ => match i_ with | 0 => .slice (some ⟨ib, io, none⟩) n ic | 1 => .int .i64 ((i : Nat) : Int) | 2 => .pointer (some ⟨ib, io + i, none⟩) | 3 => .int .i64 ((w : Nat) : Int) | 4 => .bool false | 5 => .bool false | 6 => .slice (some ⟨ib, io, none⟩) n ic | 7 => .int .i64 ((i : Nat) : Int) | 8 => .pointer (some ⟨ib, io + i, none⟩) | 9 => .int .i64 ((w : Nat) : Int) | 10 => .slice (some ⟨ib, io, none⟩) n ic | 11 => .int .i64 ((n : Nat) : Int) | 12 => .bool true | 13 => .bool true | 14 => .bool true | 15 => undef | 16 => undef | 17 => undef | 18 => undef | 19 => undef | 20 => undef | 21 => undef | 22 => .bool true | _ => undef) () A.1 (by kernel_rfl) (by decide) (by decide) ⟨BB, FXs⟩ ?_ ?_
        · intro i_ hi_ s a X hf hv hn hS
          match i_, hi_ with
          | 0, _ => exact stepV rfl rfl (execMvB rfl ((hf 0 (by decide)).trans t0)) ⟨s, ⟨_, rfl, rfl⟩, hS, fun _ _ => rfl⟩
          | 1, _ => exact stepV rfl rfl (execMvB rfl ((hf 4 (by decide)).trans t4)) ⟨s, ⟨_, rfl, rfl⟩, hS, fun _ _ => rfl⟩
          | 2, _ => exact stepV rfl rfl (execIdxN (k := i) rfl (hv 0 (by omega) _ rfl _ rfl) (hv 1 (by omega) _ rfl _ rfl) hlt) ⟨s, ⟨_, rfl, rfl⟩, hS, fun _ _ => rfl⟩
          | 3, _ => exact stepV rfl rfl (execLd3 rfl (hv 2 (by omega) _ rfl _ rfl) (cW X hS.1)) ⟨s, ⟨_, rfl, rfl⟩, hS, fun _ _ => rfl⟩
          | 4, _ => exact stepV rfl rfl (execDec (execLtW (p := w) (q := 0) rfl (hv 3 (by omega) _ rfl _ rfl) rfl) (decide_eq_false (by omega))) ⟨s, ⟨_, rfl, rfl⟩, hS, fun _ _ => rfl⟩
          | 5, _ => exact stepV rfl rfl (execMvB rfl (hv 4 (by omega) _ rfl _ rfl)) ⟨s, ⟨_, rfl, rfl⟩, hS, fun _ _ => rfl⟩
          | 6, _ => exact stepV rfl (wantedOf rfl (yieldedAt rfl rfl (show a.eval (.tmp 19) = .bool false from (hv 5 (by omega) _ rfl _ rfl)))) (execMvB rfl ((hf 0 (by decide)).trans t0)) ⟨s, ⟨_, rfl, rfl⟩, hS, fun _ _ => rfl⟩
          | 7, _ => exact stepV rfl (wantedOf rfl (yieldedAt rfl rfl (show a.eval (.tmp 19) = .bool false from (hv 5 (by omega) _ rfl _ rfl)))) (execMvB rfl ((hf 4 (by decide)).trans t4)) ⟨s, ⟨_, rfl, rfl⟩, hS, fun _ _ => rfl⟩
          | 8, _ => exact stepV rfl (wantedOf rfl (yieldedAt rfl rfl (show a.eval (.tmp 19) = .bool false from (hv 5 (by omega) _ rfl _ rfl)))) (execIdxN (k := i) rfl (hv 6 (by omega) _ rfl _ rfl) (hv 7 (by omega) _ rfl _ rfl) hlt) ⟨s, ⟨_, rfl, rfl⟩, hS, fun _ _ => rfl⟩
          | 9, _ => exact stepV rfl (wantedOf rfl (yieldedAt rfl rfl (show a.eval (.tmp 19) = .bool false from (hv 5 (by omega) _ rfl _ rfl)))) (execLd3 rfl (hv 8 (by omega) _ rfl _ rfl) (cW X hS.1)) ⟨s, ⟨_, rfl, rfl⟩, hS, fun _ _ => rfl⟩
          | 10, _ => exact stepV rfl (wantedOf rfl (yieldedAt rfl rfl (show a.eval (.tmp 19) = .bool false from (hv 5 (by omega) _ rfl _ rfl)))) (execMvB rfl ((hf 0 (by decide)).trans t0)) ⟨s, ⟨_, rfl, rfl⟩, hS, fun _ _ => rfl⟩
          | 11, _ => exact stepV rfl (wantedOf rfl (yieldedAt rfl rfl (show a.eval (.tmp 19) = .bool false from (hv 5 (by omega) _ rfl _ rfl)))) (execLenI (len := n) rfl (hv 10 (by omega) _ rfl _ rfl) ((FI.on hS.1)).shp) ⟨s, ⟨_, rfl, rfl⟩, hS, fun _ _ => rfl⟩
          | 12, _ => exact stepV rfl (wantedOf rfl (yieldedAt rfl rfl (show a.eval (.tmp 19) = .bool false from (hv 5 (by omega) _ rfl _ rfl)))) (execDec (execGe8 (p := w) (q := n) rfl (hv 9 (by omega) _ rfl _ rfl) (hv 11 (by omega) _ rfl _ rfl)) (decide_eq_true (by omega))) ⟨s, ⟨_, rfl, rfl⟩, hS, fun _ _ => rfl⟩
          | 13, _ => exact stepV rfl rfl (execPickF rfl (hv 5 (by omega) _ rfl _ rfl) (hv 12 (by omega) _ rfl _ rfl)) ⟨s, ⟨_, rfl, rfl⟩, hS, fun _ _ => rfl⟩
          | 14, _ => exact stepV rfl rfl (execMvB rfl (hv 13 (by omega) _ rfl _ rfl)) ⟨s, ⟨_, rfl, rfl⟩, hS, fun _ _ => rfl⟩
          | 15, _ => exact stepU rfl (unwantedOf rfl (yieldedAt rfl rfl (show a.eval (.tmp 28) = .bool (!false) from (hv 14 (by omega) _ rfl _ rfl)))) ⟨s, ⟨_, rfl, rfl⟩, hS, fun _ _ => rfl⟩
          | 16, _ => exact stepU rfl (unwantedOf rfl (yieldedAt rfl rfl (show a.eval (.tmp 28) = .bool (!false) from (hv 14 (by omega) _ rfl _ rfl)))) ⟨s, ⟨_, rfl, rfl⟩, hS, fun _ _ => rfl⟩
          | 17, _ => exact stepU rfl (unwantedOf rfl (yieldedAt rfl rfl (show a.eval (.tmp 28) = .bool (!false) from (hv 14 (by omega) _ rfl _ rfl)))) ⟨s, ⟨_, rfl, rfl⟩, hS, fun _ _ => rfl⟩
          | 18, _ => exact stepU rfl (unwantedOf rfl (yieldedAt rfl rfl (show a.eval (.tmp 28) = .bool (!false) from (hv 14 (by omega) _ rfl _ rfl)))) ⟨s, ⟨_, rfl, rfl⟩, hS, fun _ _ => rfl⟩
          | 19, _ => exact stepU rfl (unwantedOf rfl (yieldedAt rfl rfl (show a.eval (.tmp 28) = .bool (!false) from (hv 14 (by omega) _ rfl _ rfl)))) ⟨s, ⟨_, rfl, rfl⟩, hS, fun _ _ => rfl⟩
          | 20, _ => exact stepU rfl (unwantedOf rfl (yieldedAt rfl rfl (show a.eval (.tmp 28) = .bool (!false) from (hv 14 (by omega) _ rfl _ rfl)))) ⟨s, ⟨_, rfl, rfl⟩, hS, fun _ _ => rfl⟩
          | 21, _ => exact stepU rfl (unwantedOf rfl (yieldedAt rfl rfl (show a.eval (.tmp 28) = .bool (!false) from (hv 14 (by omega) _ rfl _ rfl)))) ⟨s, ⟨_, rfl, rfl⟩, hS, fun _ _ => rfl⟩
          | 22, _ => exact stepV rfl rfl (execPickT rfl (hv 14 (by omega) _ rfl _ rfl) rfl) ⟨s, ⟨_, rfl, rfl⟩, hS, fun _ _ => rfl⟩
          | k_ + 23, h_ => exact absurd h_ (by simp)
        rintro _ a X5 h1 h2 h3 h4 hS
        clear BB
        clear FXs
        replace hS : Below V.heap.size V X5 ∧ (X5.ownsRow V.heap.size 4 1 (.slice (some ⟨g3, 0, none⟩) n n) (n) (boolsL (n) (fun j => inI f (j : Int) i))) := hS
        obtain ⟨BB, FXs⟩ := hS
        replace t0 := (h3 0 (by decide)).trans t0
        replace t3 := (h3 3 (by decide)).trans t3
        replace t4 := (h3 4 (by decide)).trans t4
        have t36 : a.eval (.tmp 36) = .bool true := h4 22 _ rfl _ rfl
        replace A := (⟨h1, h2.trans A.2⟩ : a.tmps.size = 43 ∧ a.defers = [])
        clear h1 h2 h3 h4
        refine wp_cond_true t36 ?_
        refine wp_seq ?_
        refine wp_region_sq (σ := Unit) 43 [(0, 2)] (fun j_ s X => match j_ with | 0 => Below V.heap.size V X ∧ (X.ownsRow V.heap.size 4 1 (.slice (some ⟨g3, 0, none⟩) n n) (n) (boolsL (n) (fun j => inI f (j : Int) i))) | _ => Below V.heap.size V X ∧ (X.ownsRow V.heap.size 4 1 (.slice (some ⟨g3, 0, none⟩) n n) (n) (boolsL (n) (fun j => inI f (j : Int) i)))) (fun s => fun i_ => match i_ with | 0 => .int .i64 ((110 : Nat) : Int) | _ => undef) () A.1 (by kernel_rfl) (by decide) (by decide) ⟨BB, FXs⟩ ?_ ?_
        · intro i_ hi_ s a X hf hv hn hS
          match i_, hi_ with
          | 0, _ => exact stepV rfl rfl (execAsgB rfl rfl) ⟨s, ⟨_, rfl, rfl⟩, hS, fun _ _ => rfl⟩
          | k_ + 1, h_ => exact absurd h_ (by simp)
        rintro _ a X6 h1 h2 h3 h4 hS
        clear BB
        clear FXs
        replace hS : Below V.heap.size V X6 ∧ (X6.ownsRow V.heap.size 4 1 (.slice (some ⟨g3, 0, none⟩) n n) (n) (boolsL (n) (fun j => inI f (j : Int) i))) := hS
        obtain ⟨BB, FXs⟩ := hS
        have t2 : a.eval (.tmp 2) = .int .i64 ((110 : Nat) : Int) := h4 0 _ rfl _ rfl
        replace A := (⟨h1, h2.trans A.2⟩ : a.tmps.size = 43 ∧ a.defers = [])
        clear h1 h2 h3 h4
        clear t0 t3 t4 t36
        have hE : pE f n = 110 := pE_bad hlt (Or.inr (Or.inl (by omega)))
        rw [hE]
        refine wp_ret ?_
        repeat (first | refine ret_in ?_ | refine ret_then ?_)
        refine bodyPost_ret (results_tmp rfl _ _ _) A.2 ⟨?_, BB⟩
        show Ending.returned (a.eval (.tmp 2)) = _
        rw [t2]
      · by_cases h3 : inI f (f i) i = true
        · obtain ⟨w, ew⟩ : ∃ w : Nat, f i = w := ⟨(f i).toNat, by omega⟩
          have cW : ∀ X, Below V.heap.size V X → X.cell? ⟨ib, io + i, none⟩ = some (.int .i64 ((w : Nat) : Int)) := fun X hX => by rw [cI i hlt X hX, ew]
          have hw : w < n := by omega
          have hsn : inI f (w : Int) i = true := by rw [← ew]; exact h3
          refine wp_seq ?_
          refine wp_seq ?_
          refine wp_region_sq (σ := Unit) 43 [(0, 14), (1, 15), (2, 16), (3, 17), (4, 18), (5, 19), (6, 20), (7, 21), (8, 22), (9, 23), (10, 24), (11, 25), (12, 26), (13, 27), (14, 28), (15, 29), (16, 30), (17, 31), (18, 32), (19, 33), (20, 34), (21, 35), (22, 36)] (fun j_ s X => match j_ with | 0 => Below V.heap.size V X ∧ (X.ownsRow V.heap.size 4 1 (.slice (some ⟨g3, 0, none⟩) n n) (n) (boolsL (n) (fun j => inI f (j : Int) i))) | 1 => Below V.heap.size V X ∧ (X.ownsRow V.heap.size 4 1 (.slice (some ⟨g3, 0, none⟩) n n) (n) (boolsL (n) (fun j => inI f (j : Int) i))) | 2 => Below V.heap.size V X ∧ (X.ownsRow V.heap.size 4 1 (.slice (some ⟨g3, 0, none⟩) n n) (n) (boolsL (n) (fun j => inI f (j : Int) i))) | 3 => Below V.heap.size V X ∧ (X.ownsRow V.heap.size 4 1 (.slice (some ⟨g3, 0, none⟩) n n) (n) (boolsL (n) (fun j => inI f (j : Int) i))) | 4 => Below V.heap.size V X ∧ (X.ownsRow V.heap.size 4 1 (.slice (some ⟨g3, 0, none⟩) n n) (n) (boolsL (n) (fun j => inI f (j : Int) i))) | 5 => Below V.heap.size V X ∧ (X.ownsRow V.heap.size 4 1 (.slice (some ⟨g3, 0, none⟩) n n) (n) (boolsL (n) (fun j => inI f (j : Int) i))) | 6 => Below V.heap.size V X ∧ (X.ownsRow V.heap.size 4 1 (.slice (some ⟨g3, 0, none⟩) n n) (n) (boolsL (n) (fun j => inI f (j : Int) i))) | 7 => Below V.heap.size V X ∧ (X.ownsRow V.heap.size 4 1 (.slice (some ⟨g3, 0, none⟩) n n) (n) (boolsL (n) (fun j => inI f (j : Int) i))) | 8 => Below V.heap.size V X ∧ (X.ownsRow V.heap.size 4 1 (.slice (some ⟨g3, 0, none⟩) n n) (n) (boolsL (n) (fun j => inI f (j : Int) i))) | 9 => Below V.heap.size V X ∧ (X.ownsRow V.heap.size 4 1 (.slice (some ⟨g3, 0, none⟩) n n) (n) (boolsL (n) (fun j => inI f (j : Int) i))) | 10 => Below V.heap.size V X ∧ (X.ownsRow V.heap.size 4 1 (.slice (some ⟨g3, 0, none⟩) n n) (n) (boolsL (n) (fun j => inI f (j : Int) i))) | 11 => Below V.heap.size V X ∧ (X.ownsRow V.heap.size 4 1 (.slice (some ⟨g3, 0, none⟩) n n) (n) (boolsL (n) (fun j => inI f (j : Int) i))) | 12 => Below V.heap.size V X ∧ (X.ownsRow V.heap.size 4 1 (.slice (some ⟨g3, 0, none⟩) n n) (n) (boolsL (n) (fun j => inI f (j : Int) i))) | 13 => Below V.heap.size V X ∧ (X.ownsRow V.heap.size 4 1 (.slice (some ⟨g3, 0, none⟩) n n) (n) (boolsL (n) (fun j => inI f (j : Int) i))) | 14 => Below V.heap.size V X ∧ (X.ownsRow V.heap.size 4 1 (.slice (some ⟨g3, 0, none⟩) n n) (n) (boolsL (n) (fun j => inI f (j : Int) i))) | 15 => Below V.heap.size V X ∧ (X.ownsRow V.heap.size 4 1 (.slice (some ⟨g3, 0, none⟩) n n) (n) (boolsL (n) (fun j => inI f (j : Int) i))) | 16 => Below V.heap.size V X ∧ (X.ownsRow V.heap.size 4 1 (.slice (some ⟨g3, 0, none⟩) n n) (n) (boolsL (n) (fun j => inI f (j : Int) i))) | 17 => Below V.heap.size V X ∧ (X.ownsRow V.heap.size 4 1 (.slice (some ⟨g3, 0, none⟩) n n) (n) (boolsL (n) (fun j => inI f (j : Int) i))) | 18 => Below V.heap.size V X ∧ (X.ownsRow V.heap.size 4 1 (.slice (some ⟨g3, 0, none⟩) n n) (n) (boolsL (n) (fun j => inI f (j : Int) i))) | 19 => Below V.heap.size V X ∧ (X.ownsRow V.heap.size 4 1 (.slice (some ⟨g3, 0, none⟩) n n) (n) (boolsL (n) (fun j => inI f (j : Int) i))) | 20 => Below V.heap.size V X ∧ (X.ownsRow V.heap.size 4 1 (.slice (some ⟨g3, 0, none⟩) n n) (n) (boolsL (n) (fun j => inI f (j : Int) i))) | 21 => Below V.heap.size V X ∧ (X.ownsRow V.heap.size 4 1 (.slice (some ⟨g3, 0, none⟩) n n) (n) (boolsL (n) (fun j => inI f (j : Int) i))) | 22 => Below V.heap.size V X ∧ (X.ownsRow V.heap.size 4 1 (.slice (some ⟨g3, 0, none⟩) n n) (n) (boolsL (n) (fun j => inI f (j : Int) i))) | _ => Below V.heap.size V X ∧ (X.ownsRow V.heap.size 4 1 (.slice (some ⟨g3, 0, none⟩) n n) (n) (boolsL (n) (fun j => inI f (j : Int) i)))) (fun s => fun i_ => match i_ with | 0 => .slice (some ⟨ib, io, none⟩) n ic | 1 => .int .i64 ((i : Nat) : Int) | 2 => .pointer (some ⟨ib, io + i, none⟩) | 3 => .int .i64 ((w : Nat) : Int) | 4 => .bool false | 5 => .bool false | 6 => .slice (some ⟨ib, io, none⟩) n ic | 7 => .int .i64 ((i : Nat) : Int) | 8 => .pointer (some ⟨ib, io + i, none⟩) | 9 => .int .i64 ((w : Nat) : Int) | 10 => .slice (some ⟨ib, io, none⟩) n ic | 11 => .int .i64 ((n : Nat) : Int) | 12 => .bool false | 13 => .bool false | 14 => .bool false | 15 => .slice (some ⟨g3, 0, none⟩) n n | 16 => .slice (some ⟨ib, io, none⟩) n ic | 17 => .int .i64 ((i : Nat) : Int) | 18 => .pointer (some ⟨ib, io + i, none⟩) | 19 => .int .i64 ((w : Nat) : Int) | 20 => .pointer (some ⟨g3, 0 + w, none⟩) | 21 => .bool true | 22 => .bool true | _ => undef) () A.1 (by kernel_rfl) (by decide) (by decide) ⟨BB, FXs⟩ ?_ ?_
          · intro i_ hi_ s a X hf hv hn hS
            match i_, hi_ with
            | 0, _ => exact stepV rfl rfl (execMvB rfl ((hf 0 (by decide)).trans t0)) ⟨s, ⟨_, rfl, rfl⟩, hS, fun _ _ => rfl⟩
            | 1, _ => exact stepV rfl rfl (execMvB rfl ((hf 4 (by decide)).trans t4)) ⟨s, ⟨_, rfl, rfl⟩, hS, fun _ _ => rfl⟩
            | 2, _ => exact stepV rfl rfl (execIdxN (k := i) rfl (hv 0 (by omega) _ rfl _ rfl) (hv 1 (by omega) _ rfl _ rfl) hlt) ⟨s, ⟨_, rfl, rfl⟩, hS, fun _ _ => rfl⟩
            | 3, _ => exact stepV rfl rfl (execLd3 rfl (hv 2 (by omega) _ rfl _ rfl) (cW X hS.1)) ⟨s, ⟨_, rfl, rfl⟩, hS, fun _ _ => rfl⟩
            | 4, _ => exact stepV rfl rfl (execDec (execLtW (p := w) (q := 0) rfl (hv 3 (by omega) _ rfl _ rfl) rfl) (decide_eq_false (by omega))) ⟨s, ⟨_, rfl, rfl⟩, hS, fun _ _ => rfl⟩
            | 5, _ => exact stepV rfl rfl (execMvB rfl (hv 4 (by omega) _ rfl _ rfl)) ⟨s, ⟨_, rfl, rfl⟩, hS, fun _ _ => rfl⟩
            | 6, _ => exact stepV rfl (wantedOf rfl (yieldedAt rfl rfl (show a.eval (.tmp 19) = .bool false from (hv 5 (by omega) _ rfl _ rfl)))) (execMvB rfl ((hf 0 (by decide)).trans t0)) ⟨s, ⟨_, rfl, rfl⟩, hS, fun _ _ => rfl⟩
            | 7, _ => exact stepV rfl (wantedOf rfl (yieldedAt rfl rfl (show a.eval (.tmp 19) = .bool false from (hv 5 (by omega) _ rfl _ rfl)))) (execMvB rfl ((hf 4 (by decide)).trans t4)) ⟨s, ⟨_, rfl, rfl⟩, hS, fun _ _ => rfl⟩
            | 8, _ => exact stepV rfl (wantedOf rfl (yieldedAt rfl rfl (show a.eval (.tmp 19) = .bool false from (hv 5 (by omega) _ rfl _ rfl)))) (execIdxN (k := i) rfl (hv 6 (by omega) _ rfl _ rfl) (hv 7 (by omega) _ rfl _ rfl) hlt) ⟨s, ⟨_, rfl, rfl⟩, hS, fun _ _ => rfl⟩
            | 9, _ => exact stepV rfl (wantedOf rfl (yieldedAt rfl rfl (show a.eval (.tmp 19) = .bool false from (hv 5 (by omega) _ rfl _ rfl)))) (execLd3 rfl (hv 8 (by omega) _ rfl _ rfl) (cW X hS.1)) ⟨s, ⟨_, rfl, rfl⟩, hS, fun _ _ => rfl⟩
            | 10, _ => exact stepV rfl (wantedOf rfl (yieldedAt rfl rfl (show a.eval (.tmp 19) = .bool false from (hv 5 (by omega) _ rfl _ rfl)))) (execMvB rfl ((hf 0 (by decide)).trans t0)) ⟨s, ⟨_, rfl, rfl⟩, hS, fun _ _ => rfl⟩
            | 11, _ => exact stepV rfl (wantedOf rfl (yieldedAt rfl rfl (show a.eval (.tmp 19) = .bool false from (hv 5 (by omega) _ rfl _ rfl)))) (execLenI (len := n) rfl (hv 10 (by omega) _ rfl _ rfl) ((FI.on hS.1)).shp) ⟨s, ⟨_, rfl, rfl⟩, hS, fun _ _ => rfl⟩
            | 12, _ => exact stepV rfl (wantedOf rfl (yieldedAt rfl rfl (show a.eval (.tmp 19) = .bool false from (hv 5 (by omega) _ rfl _ rfl)))) (execDec (execGe8 (p := w) (q := n) rfl (hv 9 (by omega) _ rfl _ rfl) (hv 11 (by omega) _ rfl _ rfl)) (decide_eq_false (by omega))) ⟨s, ⟨_, rfl, rfl⟩, hS, fun _ _ => rfl⟩
            | 13, _ => exact stepV rfl rfl (execPickF rfl (hv 5 (by omega) _ rfl _ rfl) (hv 12 (by omega) _ rfl _ rfl)) ⟨s, ⟨_, rfl, rfl⟩, hS, fun _ _ => rfl⟩
            | 14, _ => exact stepV rfl rfl (execMvB rfl (hv 13 (by omega) _ rfl _ rfl)) ⟨s, ⟨_, rfl, rfl⟩, hS, fun _ _ => rfl⟩
            | 15, _ => exact stepV rfl (wantedOf rfl (yieldedAt rfl rfl (show a.eval (.tmp 28) = .bool false from (hv 14 (by omega) _ rfl _ rfl)))) (execMvB rfl ((hf 3 (by decide)).trans t3)) ⟨s, ⟨_, rfl, rfl⟩, hS, fun _ _ => rfl⟩
            | 16, _ => exact stepV rfl (wantedOf rfl (yieldedAt rfl rfl (show a.eval (.tmp 28) = .bool false from (hv 14 (by omega) _ rfl _ rfl)))) (execMvB rfl ((hf 0 (by decide)).trans t0)) ⟨s, ⟨_, rfl, rfl⟩, hS, fun _ _ => rfl⟩
            | 17, _ => exact stepV rfl (wantedOf rfl (yieldedAt rfl rfl (show a.eval (.tmp 28) = .bool false from (hv 14 (by omega) _ rfl _ rfl)))) (execMvB rfl ((hf 4 (by decide)).trans t4)) ⟨s, ⟨_, rfl, rfl⟩, hS, fun _ _ => rfl⟩
            | 18, _ => exact stepV rfl (wantedOf rfl (yieldedAt rfl rfl (show a.eval (.tmp 28) = .bool false from (hv 14 (by omega) _ rfl _ rfl)))) (execIdxN (k := i) rfl (hv 16 (by omega) _ rfl _ rfl) (hv 17 (by omega) _ rfl _ rfl) hlt) ⟨s, ⟨_, rfl, rfl⟩, hS, fun _ _ => rfl⟩
            | 19, _ => exact stepV rfl (wantedOf rfl (yieldedAt rfl rfl (show a.eval (.tmp 28) = .bool false from (hv 14 (by omega) _ rfl _ rfl)))) (execLd3 rfl (hv 18 (by omega) _ rfl _ rfl) (cW X hS.1)) ⟨s, ⟨_, rfl, rfl⟩, hS, fun _ _ => rfl⟩
            | 20, _ => exact stepV rfl (wantedOf rfl (yieldedAt rfl rfl (show a.eval (.tmp 28) = .bool false from (hv 14 (by omega) _ rfl _ rfl)))) (execIdxBl (k := w) rfl (hv 15 (by omega) _ rfl _ rfl) (hv 19 (by omega) _ rfl _ rfl) hw) ⟨s, ⟨_, rfl, rfl⟩, hS, fun _ _ => rfl⟩
            | 21, _ => exact stepV rfl (wantedOf rfl (yieldedAt rfl rfl (show a.eval (.tmp 28) = .bool false from (hv 14 (by omega) _ rfl _ rfl)))) (execLdBl rfl (hv 20 (by omega) _ rfl _ rfl) (by rw [(own_cellBl hS.2 hw).1, hsn])) ⟨s, ⟨_, rfl, rfl⟩, hS, fun _ _ => rfl⟩
            | 22, _ => exact stepV rfl rfl (execPickF rfl (hv 14 (by omega) _ rfl _ rfl) (hv 21 (by omega) _ rfl _ rfl)) ⟨s, ⟨_, rfl, rfl⟩, hS, fun _ _ => rfl⟩
            | k_ + 23, h_ => exact absurd h_ (by simp)
          rintro _ a X5 h1 h2 h3 h4 hS
          clear BB
          clear FXs
          replace hS : Below V.heap.size V X5 ∧ (X5.ownsRow V.heap.size 4 1 (.slice (some ⟨g3, 0, none⟩) n n) (n) (boolsL (n) (fun j => inI f (j : Int) i))) := hS
          obtain ⟨BB, FXs⟩ := hS
          replace t0 := (h3 0 (by decide)).trans t0
          replace t3 := (h3 3 (by decide)).trans t3
          replace t4 := (h3 4 (by decide)).trans t4
          have t36 : a.eval (.tmp 36) = .bool true := h4 22 _ rfl _ rfl
          replace A := (⟨h1, h2.trans A.2⟩ : a.tmps.size = 43 ∧ a.defers = [])
          clear h1 h2 h3 h4
          refine wp_cond_true t36 ?_
          refine wp_seq ?_
          refine wp_region_sq (σ := Unit) 43 [(0, 2)] (fun j_ s X => match j_ with | 0 => Below V.heap.size V X ∧ (X.ownsRow V.heap.size 4 1 (.slice (some ⟨g3, 0, none⟩) n n) (n) (boolsL (n) (fun j => inI f (j : Int) i))) | _ => Below V.heap.size V X ∧ (X.ownsRow V.heap.size 4 1 (.slice (some ⟨g3, 0, none⟩) n n) (n) (boolsL (n) (fun j => inI f (j : Int) i)))) (fun s => fun i_ => match i_ with | 0 => .int .i64 ((110 : Nat) : Int) | _ => undef) () A.1 (by kernel_rfl) (by decide) (by decide) ⟨BB, FXs⟩ ?_ ?_
          · intro i_ hi_ s a X hf hv hn hS
            match i_, hi_ with
            | 0, _ => exact stepV rfl rfl (execAsgB rfl rfl) ⟨s, ⟨_, rfl, rfl⟩, hS, fun _ _ => rfl⟩
            | k_ + 1, h_ => exact absurd h_ (by simp)
          rintro _ a X6 h1 h2 h3 h4 hS
          clear BB
          clear FXs
          replace hS : Below V.heap.size V X6 ∧ (X6.ownsRow V.heap.size 4 1 (.slice (some ⟨g3, 0, none⟩) n n) (n) (boolsL (n) (fun j => inI f (j : Int) i))) := hS
          obtain ⟨BB, FXs⟩ := hS
          have t2 : a.eval (.tmp 2) = .int .i64 ((110 : Nat) : Int) := h4 0 _ rfl _ rfl
          replace A := (⟨h1, h2.trans A.2⟩ : a.tmps.size = 43 ∧ a.defers = [])
          clear h1 h2 h3 h4
          clear t0 t3 t4 t36
          have hE : pE f n = 110 := pE_bad hlt (Or.inr (Or.inr h3))
          rw [hE]
          refine wp_ret ?_
          repeat (first | refine ret_in ?_ | refine ret_then ?_)
          refine bodyPost_ret (results_tmp rfl _ _ _) A.2 ⟨?_, BB⟩
          show Ending.returned (a.eval (.tmp 2)) = _
          rw [t2]
        · obtain ⟨w, ew⟩ : ∃ w : Nat, f i = w := ⟨(f i).toNat, by omega⟩
          have cW : ∀ X, Below V.heap.size V X → X.cell? ⟨ib, io + i, none⟩ = some (.int .i64 ((w : Nat) : Int)) := fun X hX => by rw [cI i hlt X hX, ew]
          have hw : w < n := by omega
          have hsn : inI f (w : Int) i = false := by rw [← ew]; exact Bool.eq_false_iff.2 h3
          refine wp_seq ?_
          refine wp_seq ?_
          refine wp_region_sq (σ := Unit) 43 [(0, 14), (1, 15), (2, 16), (3, 17), (4, 18), (5, 19), (6, 20), (7, 21), (8, 22), (9, 23), (10, 24), (11, 25), (12, 26), (13, 27), (14, 28), (15, 29), (16, 30), (17, 31), (18, 32), (19, 33), (20, 34), (21, 35), (22, 36)] (fun j_ s X => match j_ with | 0 => Below V.heap.size V X ∧ (X.ownsRow V.heap.size 4 1 (.slice (some ⟨g3, 0, none⟩) n n) (n) (boolsL (n) (fun j => inI f (j : Int) i))) | 1 => Below V.heap.size V X ∧ (X.ownsRow V.heap.size 4 1 (.slice (some ⟨g3, 0, none⟩) n n) (n) (boolsL (n) (fun j => inI f (j : Int) i))) | 2 => Below V.heap.size V X ∧ (X.ownsRow V.heap.size 4 1 (.slice (some ⟨g3, 0, none⟩) n n) (n) (boolsL (n) (fun j => inI f (j : Int) i))) | 3 => Below V.heap.size V X ∧ (X.ownsRow V.heap.size 4 1 (.slice (some ⟨g3, 0, none⟩) n n) (n) (boolsL (n) (fun j => inI f (j : Int) i))) | 4 => Below V.heap.size V X ∧ (X.ownsRow V.heap.size 4 1 (.slice (some ⟨g3, 0, none⟩) n n) (n) (boolsL (n) (fun j => inI f (j : Int) i))) | 5 => Below V.heap.size V X ∧ (X.ownsRow V.heap.size 4 1 (.slice (some ⟨g3, 0, none⟩) n n) (n) (boolsL (n) (fun j => inI f (j : Int) i))) | 6 => Below V.heap.size V X ∧ (X.ownsRow V.heap.size 4 1 (.slice (some ⟨g3, 0, none⟩) n n) (n) (boolsL (n) (fun j => inI f (j : Int) i))) | 7 => Below V.heap.size V X ∧ (X.ownsRow V.heap.size 4 1 (.slice (some ⟨g3, 0, none⟩) n n) (n) (boolsL (n) (fun j => inI f (j : Int) i))) | 8 => Below V.heap.size V X ∧ (X.ownsRow V.heap.size 4 1 (.slice (some ⟨g3, 0, none⟩) n n) (n) (boolsL (n) (fun j => inI f (j : Int) i))) | 9 => Below V.heap.size V X ∧ (X.ownsRow V.heap.size 4 1 (.slice (some ⟨g3, 0, none⟩) n n) (n) (boolsL (n) (fun j => inI f (j : Int) i))) | 10 => Below V.heap.size V X ∧ (X.ownsRow V.heap.size 4 1 (.slice (some ⟨g3, 0, none⟩) n n) (n) (boolsL (n) (fun j => inI f (j : Int) i))) | 11 => Below V.heap.size V X ∧ (X.ownsRow V.heap.size 4 1 (.slice (some ⟨g3, 0, none⟩) n n) (n) (boolsL (n) (fun j => inI f (j : Int) i))) | 12 => Below V.heap.size V X ∧ (X.ownsRow V.heap.size 4 1 (.slice (some ⟨g3, 0, none⟩) n n) (n) (boolsL (n) (fun j => inI f (j : Int) i))) | 13 => Below V.heap.size V X ∧ (X.ownsRow V.heap.size 4 1 (.slice (some ⟨g3, 0, none⟩) n n) (n) (boolsL (n) (fun j => inI f (j : Int) i))) | 14 => Below V.heap.size V X ∧ (X.ownsRow V.heap.size 4 1 (.slice (some ⟨g3, 0, none⟩) n n) (n) (boolsL (n) (fun j => inI f (j : Int) i))) | 15 => Below V.heap.size V X ∧ (X.ownsRow V.heap.size 4 1 (.slice (some ⟨g3, 0, none⟩) n n) (n) (boolsL (n) (fun j => inI f (j : Int) i))) | 16 => Below V.heap.size V X ∧ (X.ownsRow V.heap.size 4 1 (.slice (some ⟨g3, 0, none⟩) n n) (n) (boolsL (n) (fun j => inI f (j : Int) i))) | 17 => Below V.heap.size V X ∧ (X.ownsRow V.heap.size 4 1 (.slice (some ⟨g3, 0, none⟩) n n) (n) (boolsL (n) (fun j => inI f (j : Int) i))) | 18 => Below V.heap.size V X ∧ (X.ownsRow V.heap.size 4 1 (.slice (some ⟨g3, 0, none⟩) n n) (n) (boolsL (n) (fun j => inI f (j : Int) i))) | 19 => Below V.heap.size V X ∧ (X.ownsRow V.heap.size 4 1 (.slice (some ⟨g3, 0, none⟩) n n) (n) (boolsL (n) (fun j => inI f (j : Int) i))) | 20 => Below V.heap.size V X ∧ (X.ownsRow V.heap.size 4 1 (.slice (some ⟨g3, 0, none⟩) n n) (n) (boolsL (n) (fun j => inI f (j : Int) i))) | 21 => Below V.heap.size V X ∧ (X.ownsRow V.heap.size 4 1 (.slice (some ⟨g3, 0, none⟩) n n) (n) (boolsL (n) (fun j => inI f (j : Int) i))) | 22 => Below V.heap.size V X ∧ (X.ownsRow V.heap.size 4 1 (.slice (some ⟨g3, 0, none⟩) n n) (n) (boolsL (n) (fun j => inI f (j : Int) i))) | _ => Below V.heap.size V X ∧ (X.ownsRow V.heap.size 4 1 (.slice (some ⟨g3, 0, none⟩) n n) (n) (boolsL (n) (fun j => inI f (j : Int) i)))) (fun s => fun i_ => match i_ with | 0 => .slice (some ⟨ib, io, none⟩) n ic | 1 => .int .i64 ((i : Nat) : Int) | 2 => .pointer (some ⟨ib, io + i, none⟩) | 3 => .int .i64 ((w : Nat) : Int) | 4 => .bool false | 5 => .bool false | 6 => .slice (some ⟨ib, io, none⟩) n ic | 7 => .int .i64 ((i : Nat) : Int) | 8 => .pointer (some ⟨ib, io + i, none⟩) | 9 => .int .i64 ((w : Nat) : Int) | 10 => .slice (some ⟨ib, io, none⟩) n ic | 11 => .int .i64 ((n : Nat) : Int) | 12 => .bool false | 13 => .bool false | 14 => .bool false | 15 => .slice (some ⟨g3, 0, none⟩) n n | 16 => .slice (some ⟨ib, io, none⟩) n ic | 17 => .int .i64 ((i : Nat) : Int) | 18 => .pointer (some ⟨ib, io + i, none⟩) | 19 => .int .i64 ((w : Nat) : Int) | 20 => .pointer (some ⟨g3, 0 + w, none⟩) | 21 => .bool false | 22 => .bool false | _ => undef) () A.1 (by kernel_rfl) (by decide) (by decide) ⟨BB, FXs⟩ ?_ ?_
          · intro i_ hi_ s a X hf hv hn hS
            match i_, hi_ with
            | 0, _ => exact stepV rfl rfl (execMvB rfl ((hf 0 (by decide)).trans t0)) ⟨s, ⟨_, rfl, rfl⟩, hS, fun _ _ => rfl⟩
            | 1, _ => exact stepV rfl rfl (execMvB rfl ((hf 4 (by decide)).trans t4)) ⟨s, ⟨_, rfl, rfl⟩, hS, fun _ _ => rfl⟩
            | 2, _ => exact stepV rfl rfl (execIdxN (k := i) rfl (hv 0 (by omega) _ rfl _ rfl) (hv 1 (by omega) _ rfl _ rfl) hlt) ⟨s, ⟨_, rfl, rfl⟩, hS, fun _ _ => rfl⟩
            | 3, _ => exact stepV rfl rfl (execLd3 rfl (hv 2 (by omega) _ rfl _ rfl) (cW X hS.1)) ⟨s, ⟨_, rfl, rfl⟩, hS, fun _ _ => rfl⟩
            | 4, _ => exact stepV rfl rfl (execDec (execLtW (p := w) (q := 0) rfl (hv 3 (by omega) _ rfl _ rfl) rfl) (decide_eq_false (by omega))) ⟨s, ⟨_, rfl, rfl⟩, hS, fun _ _ => rfl⟩
            | 5, _ => exact stepV rfl rfl (execMvB rfl (hv 4 (by omega) _ rfl _ rfl)) ⟨s, ⟨_, rfl, rfl⟩, hS, fun _ _ => rfl⟩
            | 6, _ => exact stepV rfl (wantedOf rfl (yieldedAt rfl rfl (show a.eval (.tmp 19) = .bool false from (hv 5 (by omega) _ rfl _ rfl)))) (execMvB rfl ((hf 0 (by decide)).trans t0)) ⟨s, ⟨_, rfl, rfl⟩, hS, fun _ _ => rfl⟩
            | 7, _ => exact stepV rfl (wantedOf rfl (yieldedAt rfl rfl (show a.eval (.tmp 19) = .bool false from (hv 5 (by omega) _ rfl _ rfl)))) (execMvB rfl ((hf 4 (by decide)).trans t4)) ⟨s, ⟨_, rfl, rfl⟩, hS, fun _ _ => rfl⟩
            | 8, _ => exact stepV rfl (wantedOf rfl (yieldedAt rfl rfl (show a.eval (.tmp 19) = .bool false from (hv 5 (by omega) _ rfl _ rfl)))) (execIdxN (k := i) rfl (hv 6 (by omega) _ rfl _ rfl) (hv 7 (by omega) _ rfl _ rfl) hlt) ⟨s, ⟨_, rfl, rfl⟩, hS, fun _ _ => rfl⟩
            | 9, _ => exact stepV rfl (wantedOf rfl (yieldedAt rfl rfl (show a.eval (.tmp 19) = .bool false from (hv 5 (by omega) _ rfl _ rfl)))) (execLd3 rfl (hv 8 (by omega) _ rfl _ rfl) (cW X hS.1)) ⟨s, ⟨_, rfl, rfl⟩, hS, fun _ _ => rfl⟩
            | 10, _ => exact stepV rfl (wantedOf rfl (yieldedAt rfl rfl (show a.eval (.tmp 19) = .bool false from (hv 5 (by omega) _ rfl _ rfl)))) (execMvB rfl ((hf 0 (by decide)).trans t0)) ⟨s, ⟨_, rfl, rfl⟩, hS, fun _ _ => rfl⟩
            | 11, _ => exact stepV rfl (wantedOf rfl (yieldedAt rfl rfl (show a.eval (.tmp 19) = .bool false from (hv 5 (by omega) _ rfl _ rfl)))) (execLenI (len := n) rfl (hv 10 (by omega) _ rfl _ rfl) ((FI.on hS.1)).shp) ⟨s, ⟨_, rfl, rfl⟩, hS, fun _ _ => rfl⟩
            | 12, _ => exact stepV rfl (wantedOf rfl (yieldedAt rfl rfl (show a.eval (.tmp 19) = .bool false from (hv 5 (by omega) _ rfl _ rfl)))) (execDec (execGe8 (p := w) (q := n) rfl (hv 9 (by omega) _ rfl _ rfl) (hv 11 (by omega) _ rfl _ rfl)) (decide_eq_false (by omega))) ⟨s, ⟨_, rfl, rfl⟩, hS, fun _ _ => rfl⟩
            | 13, _ => exact stepV rfl rfl (execPickF rfl (hv 5 (by omega) _ rfl _ rfl) (hv 12 (by omega) _ rfl _ rfl)) ⟨s, ⟨_, rfl, rfl⟩, hS, fun _ _ => rfl⟩
            | 14, _ => exact stepV rfl rfl (execMvB rfl (hv 13 (by omega) _ rfl _ rfl)) ⟨s, ⟨_, rfl, rfl⟩, hS, fun _ _ => rfl⟩
            | 15, _ => exact stepV rfl (wantedOf rfl (yieldedAt rfl rfl (show a.eval (.tmp 28) = .bool false from (hv 14 (by omega) _ rfl _ rfl)))) (execMvB rfl ((hf 3 (by decide)).trans t3)) ⟨s, ⟨_, rfl, rfl⟩, hS, fun _ _ => rfl⟩
            | 16, _ => exact stepV rfl (wantedOf rfl (yieldedAt rfl rfl (show a.eval (.tmp 28) = .bool false from (hv 14 (by omega) _ rfl _ rfl)))) (execMvB rfl ((hf 0 (by decide)).trans t0)) ⟨s, ⟨_, rfl, rfl⟩, hS, fun _ _ => rfl⟩
            | 17, _ => exact stepV rfl (wantedOf rfl (yieldedAt rfl rfl (show a.eval (.tmp 28) = .bool false from (hv 14 (by omega) _ rfl _ rfl)))) (execMvB rfl ((hf 4 (by decide)).trans t4)) ⟨s, ⟨_, rfl, rfl⟩, hS, fun _ _ => rfl⟩
            | 18, _ => exact stepV rfl (wantedOf rfl (yieldedAt rfl rfl (show a.eval (.tmp 28) = .bool false from (hv 14 (by omega) _ rfl _ rfl)))) (execIdxN (k := i) rfl (hv 16 (by omega) _ rfl _ rfl) (hv 17 (by omega) _ rfl _ rfl) hlt) ⟨s, ⟨_, rfl, rfl⟩, hS, fun _ _ => rfl⟩
            | 19, _ => exact stepV rfl (wantedOf rfl (yieldedAt rfl rfl (show a.eval (.tmp 28) = .bool false from (hv 14 (by omega) _ rfl _ rfl)))) (execLd3 rfl (hv 18 (by omega) _ rfl _ rfl) (cW X hS.1)) ⟨s, ⟨_, rfl, rfl⟩, hS, fun _ _ => rfl⟩
            | 20, _ => exact stepV rfl (wantedOf rfl (yieldedAt rfl rfl (show a.eval (.tmp 28) = .bool false from (hv 14 (by omega) _ rfl _ rfl)))) (execIdxBl (k := w) rfl (hv 15 (by omega) _ rfl _ rfl) (hv 19 (by omega) _ rfl _ rfl) hw) ⟨s, ⟨_, rfl, rfl⟩, hS, fun _ _ => rfl⟩
            | 21, _ => exact stepV rfl (wantedOf rfl (yieldedAt rfl rfl (show a.eval (.tmp 28) = .bool false from (hv 14 (by omega) _ rfl _ rfl)))) (execLdBl rfl (hv 20 (by omega) _ rfl _ rfl) (by rw [(own_cellBl hS.2 hw).1, hsn])) ⟨s, ⟨_, rfl, rfl⟩, hS, fun _ _ => rfl⟩
            | 22, _ => exact stepV rfl rfl (execPickF rfl (hv 14 (by omega) _ rfl _ rfl) (hv 21 (by omega) _ rfl _ rfl)) ⟨s, ⟨_, rfl, rfl⟩, hS, fun _ _ => rfl⟩
            | k_ + 23, h_ => exact absurd h_ (by simp)
          rintro _ a X5 h1 h2 h3 h4 hS
          clear BB
          clear FXs
          replace hS : Below V.heap.size V X5 ∧ (X5.ownsRow V.heap.size 4 1 (.slice (some ⟨g3, 0, none⟩) n n) (n) (boolsL (n) (fun j => inI f (j : Int) i))) := hS
          obtain ⟨BB, FXs⟩ := hS
          replace t0 := (h3 0 (by decide)).trans t0
          replace t3 := (h3 3 (by decide)).trans t3
          replace t4 := (h3 4 (by decide)).trans t4
          have t36 : a.eval (.tmp 36) = .bool false := h4 22 _ rfl _ rfl
          replace A := (⟨h1, h2.trans A.2⟩ : a.tmps.size = 43 ∧ a.defers = [])
          clear h1 h2 h3 h4
          refine wp_cond_false t36 ?_
          refine wp_skip ?_
          clear t36
          refine wp_region_sq (σ := Unit) 43 [(0, 37), (1, 38), (2, 39), (3, 40), (4, 41), (5, 42)] (fun j_ s X => match j_ with | 0 => Below V.heap.size V X ∧ (X.ownsRow V.heap.size 4 1 (.slice (some ⟨g3, 0, none⟩) n n) (n) (boolsL (n) (fun j => inI f (j : Int) i))) | 1 => Below V.heap.size V X ∧ (X.ownsRow V.heap.size 4 1 (.slice (some ⟨g3, 0, none⟩) n n) (n) (boolsL (n) (fun j => inI f (j : Int) i))) | 2 => Below V.heap.size V X ∧ (X.ownsRow V.heap.size 4 1 (.slice (some ⟨g3, 0, none⟩) n n) (n) (boolsL (n) (fun j => inI f (j : Int) i))) | 3 => Below V.heap.size V X ∧ (X.ownsRow V.heap.size 4 1 (.slice (some ⟨g3, 0, none⟩) n n) (n) (boolsL (n) (fun j => inI f (j : Int) i))) | 4 => Below V.heap.size V X ∧ (X.ownsRow V.heap.size 4 1 (.slice (some ⟨g3, 0, none⟩) n n) (n) (boolsL (n) (fun j => inI f (j : Int) i))) | 5 => Below V.heap.size V X ∧ (X.ownsRow V.heap.size 4 1 (.slice (some ⟨g3, 0, none⟩) n n) (n) (boolsL (n) (fun j => inI f (j : Int) i))) | 6 => Below V.heap.size V X ∧ (X.ownsRow V.heap.size 4 1 (.slice (some ⟨g3, 0, none⟩) n n) (n) (boolsL (n) (fun j => inI f (j : Int) i))) | _ => Below V.heap.size V X ∧ (X.ownsRow V.heap.size 4 1 (.slice (some ⟨g3, 0, none⟩) n n) (n) (boolsL (n) (fun j => inI f (j : Int) (i + 1))))) (fun s => fun i_ => match i_ with | 0 => .slice (some ⟨g3, 0, none⟩) n n | 1 => .slice (some ⟨ib, io, none⟩) n ic | 2 => .int .i64 ((i : Nat) : Int) | 3 => .pointer (some ⟨ib, io + i, none⟩) | 4 => .int .i64 ((w : Nat) : Int) | 5 => .pointer (some ⟨g3, 0 + w, none⟩) | 6 => undef | _ => undef) () A.1 (by kernel_rfl) (by decide) (by decide) ⟨BB, FXs⟩ ?_ ?_
          · intro i_ hi_ s a X hf hv hn hS
            match i_, hi_ with
            | 0, _ => exact stepV rfl rfl (execMvB rfl ((hf 3 (by decide)).trans t3)) ⟨s, ⟨_, rfl, rfl⟩, hS, fun _ _ => rfl⟩
            | 1, _ => exact stepV rfl rfl (execMvB rfl ((hf 0 (by decide)).trans t0)) ⟨s, ⟨_, rfl, rfl⟩, hS, fun _ _ => rfl⟩
            | 2, _ => exact stepV rfl rfl (execMvB rfl ((hf 4 (by decide)).trans t4)) ⟨s, ⟨_, rfl, rfl⟩, hS, fun _ _ => rfl⟩
            | 3, _ => exact stepV rfl rfl (execIdxN (k := i) rfl (hv 1 (by omega) _ rfl _ rfl) (hv 2 (by omega) _ rfl _ rfl) hlt) ⟨s, ⟨_, rfl, rfl⟩, hS, fun _ _ => rfl⟩
            | 4, _ => exact stepV rfl rfl (execLd3 rfl (hv 3 (by omega) _ rfl _ rfl) (cW X hS.1)) ⟨s, ⟨_, rfl, rfl⟩, hS, fun _ _ => rfl⟩
            | 5, _ => exact stepV rfl rfl (execIdxBl (k := w) rfl (hv 0 (by omega) _ rfl _ rfl) (hv 4 (by omega) _ rfl _ rfl) hw) ⟨s, ⟨_, rfl, rfl⟩, hS, fun _ _ => rfl⟩
            | 6, _ =>
              obtain ⟨hc_, hf_⟩ := own_cellBl hS.2 hw
              refine stepS rfl rfl (execStBl rfl (hv 5 (by omega) _ rfl _ rfl) rfl hc_ hf_) ⟨s, ⟨_, rfl, rfl⟩, ⟨(hS.1).setCell Fg _, seen_set hS.2 ew⟩, fun i hi => ?_⟩
              match i, hi with
              | 0, _ => rfl
              | 1, _ => rfl
              | 2, _ => rfl
              | 3, _ => rfl
              | 4, _ => rfl
              | 5, _ => rfl
              | n_ + 6, h_ => omega
            | k_ + 7, h_ => exact absurd h_ (by simp)
          rintro _ a X7 h1 h2 h3 h4 hS
          clear BB
          clear FXs
          replace hS : Below V.heap.size V X7 ∧ (X7.ownsRow V.heap.size 4 1 (.slice (some ⟨g3, 0, none⟩) n n) (n) (boolsL (n) (fun j => inI f (j : Int) (i + 1)))) := hS
          obtain ⟨BB, FS2⟩ := hS
          replace t0 := (h3 0 (by decide)).trans t0
          replace t3 := (h3 3 (by decide)).trans t3
          replace t4 := (h3 4 (by decide)).trans t4
          replace A := (⟨h1, h2.trans A.2⟩ : a.tmps.size = 43 ∧ a.defers = [])
          clear h1 h2 h3 h4
          refine wp_region_sq (σ := Unit) 43 [(0, 12), (1, 13), (2, 4)] (fun j_ s X => match j_ with | 0 => Below V.heap.size V X ∧ (X.ownsRow V.heap.size 4 1 (.slice (some ⟨g3, 0, none⟩) n n) (n) (boolsL (n) (fun j => inI f (j : Int) (i + 1)))) | 1 => Below V.heap.size V X ∧ (X.ownsRow V.heap.size 4 1 (.slice (some ⟨g3, 0, none⟩) n n) (n) (boolsL (n) (fun j => inI f (j : Int) (i + 1)))) | 2 => Below V.heap.size V X ∧ (X.ownsRow V.heap.size 4 1 (.slice (some ⟨g3, 0, none⟩) n n) (n) (boolsL (n) (fun j => inI f (j : Int) (i + 1)))) | _ => Below V.heap.size V X ∧ (X.ownsRow V.heap.size 4 1 (.slice (some ⟨g3, 0, none⟩) n n) (n) (boolsL (n) (fun j => inI f (j : Int) (i + 1))))) (fun s => fun i_ => match i_ with | 0 => .int .i64 ((i : Nat) : Int) | 1 => .int .i64 ((i + 1 : Nat) : Int) | 2 => .int .i64 ((i + 1 : Nat) : Int) | _ => undef) () A.1 (by kernel_rfl) (by decide) (by decide) ⟨BB, FS2⟩ ?_ ?_
          · intro i_ hi_ s a X hf hv hn hS
            match i_, hi_ with
            | 0, _ => exact stepV rfl rfl (execMvB rfl ((hn 2 (by omega) _ rfl _ rfl).trans t4)) ⟨s, ⟨_, rfl, rfl⟩, hS, fun _ _ => rfl⟩
            | 1, _ => exact stepV rfl rfl (execAd8 (p := i) (q := 1) rfl (hv 0 (by omega) _ rfl _ rfl) rfl (by omega)) ⟨s, ⟨_, rfl, rfl⟩, hS, fun _ _ => rfl⟩
            | 2, _ => exact stepV rfl rfl (execAsgB rfl (hv 1 (by omega) _ rfl _ rfl)) ⟨s, ⟨_, rfl, rfl⟩, hS, fun _ _ => rfl⟩
            | k_ + 3, h_ => exact absurd h_ (by simp)
          rintro _ a X4 h1 h2 h3 h4 hS
          clear BB
          clear FS2
          replace hS : Below V.heap.size V X4 ∧ (X4.ownsRow V.heap.size 4 1 (.slice (some ⟨g3, 0, none⟩) n n) (n) (boolsL (n) (fun j => inI f (j : Int) (i + 1)))) := hS
          obtain ⟨BB, FS2⟩ := hS
          replace t0 := (h3 0 (by decide)).trans t0
          replace t3 := (h3 3 (by decide)).trans t3
          replace t4 : a.eval (.tmp 4) = .int .i64 ((i + 1 : Nat) : Int) := h4 2 _ rfl _ rfl
          replace A := (⟨h1, h2.trans A.2⟩ : a.tmps.size = 43 ∧ a.defers = [])
          clear h1 h2 h3 h4
          exact ⟨⟨i + 1, hlt, okQ_succ hok h1 h2 h3, A, t0, t3, t4, BB, FS2⟩, by show n - (intOf (a.eval (.tmp 4))).toNat < n - (intOf (Act.eval _ (.tmp 4))).toNat; rw [t4, es]; show n - (i + 1) < n - i; omega⟩
  · rw [decide_eq_false hlt] at t11
    refine wp_cond_false t11 ?_
    refine wp_exit ?_
    first | refine exit_in ?_ | refine exit_then (exit_in ?_) | refine exit_then (exit_then (exit_in ?_))
    clear t11 es
    have hin : i = n := by omega
    rw [hin] at hok
    have hE : pE f n = 0 := if_pos hok
    rw [hE]
    clear FXs
    refine wp_seq ?_
    refine wp_region_sq (σ := Unit) 43 [(0, 2)] (fun j_ s X => match j_ with | 0 => Below V.heap.size V X | _ => Below V.heap.size V X) (fun s => fun i_ => match i_ with | 0 => .int .i64 ((0 : Nat) : Int) | _ => undef) () A.1 (by kernel_rfl) (by decide) (by decide) (BB) ?_ ?_
    · intro i_ hi_ s a X hf hv hn hS
      match i_, hi_ with
      | 0, _ => exact stepV rfl rfl (execAsgB rfl rfl) ⟨s, ⟨_, rfl, rfl⟩, hS, fun _ _ => rfl⟩
      | k_ + 1, h_ => exact absurd h_ (by simp)
    rintro _ a X8 h1 h2 h3 h4 hS
    clear BB
    replace hS : Below V.heap.size V X8 := hS
    have BB := hS
    clear hS
    have t2 : a.eval (.tmp 2) = .int .i64 ((0 : Nat) : Int) := h4 0 _ rfl _ rfl
    replace A := (⟨h1, h2.trans A.2⟩ : a.tmps.size = 43 ∧ a.defers = [])
    clear h1 h2 h3 h4
    clear t0 t3 t4
    refine wp_ret ?_
    repeat (first | refine ret_in ?_ | refine ret_then ?_)
    refine bodyPost_ret (results_tmp rfl _ _ _) A.2 ⟨?_, BB⟩
    show Ending.returned (a.eval (.tmp 2)) = _
    rw [t2]
set_option maxRecDepth 100000 in
set_option maxHeartbeats 4000000 in
/-- The reference's Identity. -/
theorem rident (k : Int) (V : World) (hk : k ≤ 17592186044416) :
    Calls Try.prog 23 #[.int .i64 k] V fun e w' => ∃ r, e = .returned r ∧ w'.ownsRow V.heap.size 3 1 r k.toNat (intsL k.toNat (fun j => (j : Int))) ∧ Below V.heap.size V w' := by
  go_enter Try.func23, Try.ntmps23
  refine wp_seq ?_
  refine wp_region_sqK 15 [(0, 2)] (fun i_ => match i_ with | 0 => .slice none 0 0 | _ => undef) rfl (by kernel_rfl) (by decide) (by decide) ?_ ?_
  · intro i_ hi_ a hf hv hn
    match i_, hi_ with
    | 0, _ => exact stepV rfl rfl (execAsgB rfl rfl) ⟨⟨_, rfl, rfl⟩, rfl⟩
    | k_ + 1, h_ => exact absurd h_ (by simp)
  intro a h1 h2 h3 h4
  have t0 : a.eval (.tmp 0) = .int .i64 k := (h3 0 (by decide)).trans rfl
  have A : a.tmps.size = 15 ∧ a.defers = [] := ⟨h1, h2⟩
  have BW : Below V.heap.size V V := Below.refl _ _
  clear h1 h2 h3 h4
  have BB := BW
  refine wp_seq ?_
  refine wp_region_sq (σ := Unit) 15 [(0, 3)] (fun j_ s X => match j_ with | 0 => Below V.heap.size V X | _ => Below V.heap.size V X) (fun s => fun i_ => match i_ with | 0 => .slice none 0 0 | _ => undef) () A.1 (by kernel_rfl) (by decide) (by decide) (BB) ?_ ?_
  · intro i_ hi_ s a X hf hv hn hS
    match i_, hi_ with
    | 0, _ => exact stepV rfl rfl (execAsgB rfl rfl) ⟨s, ⟨_, rfl, rfl⟩, hS, fun _ _ => rfl⟩
    | k_ + 1, h_ => exact absurd h_ (by simp)
  rintro _ a X1 h1 h2 h3 h4 hS
  clear BB
  replace hS : Below V.heap.size V X1 := hS
  have BB := hS
  clear hS
  replace t0 := (h3 0 (by decide)).trans t0
  have t3 : a.eval (.tmp 3) = .slice none 0 0 := h4 0 _ rfl _ rfl
  replace A := (⟨h1, h2.trans A.2⟩ : a.tmps.size = 15 ∧ a.defers = [])
  clear h1 h2 h3 h4
  have FO : X1.ownsRow V.heap.size 3 1 (.slice none 0 0) 0 (intsL 0 (fun j => (j : Int))) := World.ownsRow_nil _ _ _ _
  refine wp_seq ?_
  refine wp_seq ?_
  refine wp_region_sq (σ := Unit) 15 [(0, 4)] (fun j_ s X => match j_ with | 0 => Below V.heap.size V X ∧ (X.ownsRow V.heap.size 3 1 (.slice none 0 0) (0) (intsL (0) (fun j => (j : Int)))) | _ => Below V.heap.size V X ∧ (X.ownsRow V.heap.size 3 1 (.slice none 0 0) (0) (intsL (0) (fun j => (j : Int))))) (fun s => fun i_ => match i_ with | 0 => .int .i64 ((0 : Nat) : Int) | _ => undef) () A.1 (by kernel_rfl) (by decide) (by decide) ⟨BB, FO⟩ ?_ ?_
  · intro i_ hi_ s a X hf hv hn hS
    match i_, hi_ with
    | 0, _ => exact stepV rfl rfl (execAsgB rfl rfl) ⟨s, ⟨_, rfl, rfl⟩, hS, fun _ _ => rfl⟩
    | k_ + 1, h_ => exact absurd h_ (by simp)
  rintro _ a X2 h1 h2 h3 h4 hS
  clear BB
  clear FO
  replace hS : Below V.heap.size V X2 ∧ (X2.ownsRow V.heap.size 3 1 (.slice none 0 0) (0) (intsL (0) (fun j => (j : Int)))) := hS
  obtain ⟨BB, FO⟩ := hS
  replace t0 := (h3 0 (by decide)).trans t0
  replace t3 := (h3 3 (by decide)).trans t3
  have t4 : a.eval (.tmp 4) = .int .i64 ((0 : Nat) : Int) := h4 0 _ rfl _ rfl
  replace A := (⟨h1, h2.trans A.2⟩ : a.tmps.size = 15 ∧ a.defers = [])
  clear h1 h2 h3 h4
  refine wp_block ?_
  refine wp_loop (fun a W => ∃ (i : Nat) (u : Value), i ≤ k.toNat ∧ (a.tmps.size = 15 ∧ a.defers = []) ∧ a.eval (.tmp 0) = .int .i64 k ∧ a.eval (.tmp 3) = u ∧ a.eval (.tmp 4) = .int .i64 ((i : Nat) : Int) ∧ Below V.heap.size V W ∧ (W.ownsRow V.heap.size 3 1 u (i) (intsL (i) (fun j => (j : Int))))) (fun a _ => k.toNat - (intOf (a.eval (.tmp 4))).toNat) ⟨0, _, Nat.zero_le _, A, t0, t3, t4, BB, FO⟩ ?_
  clear A t0 t3 t4 BB FO a
  rintro a XL3 ⟨i, u, hi, A, t0, t3, t4, BB, FO⟩
  have es := t4
  refine wp_seq ?_
  refine wp_seq ?_
  refine wp_region_sq (σ := Unit) 15 [(0, 5), (1, 6), (2, 7)] (fun j_ s X => match j_ with | 0 => Below V.heap.size V X ∧ (X.ownsRow V.heap.size 3 1 u (i) (intsL (i) (fun j => (j : Int)))) | 1 => Below V.heap.size V X ∧ (X.ownsRow V.heap.size 3 1 u (i) (intsL (i) (fun j => (j : Int)))) | 2 => Below V.heap.size V X ∧ (X.ownsRow V.heap.size 3 1 u (i) (intsL (i) (fun j => (j : Int)))) | _ => Below V.heap.size V X ∧ (X.ownsRow V.heap.size 3 1 u (i) (intsL (i) (fun j => (j : Int))))) (fun s => fun i_ => match i_ with | 0 => .int .i64 ((i : Nat) : Int) | 1 => .int .i64 k | 2 => .bool (decide ((i : Int) < k)) | _ => undef) () A.1 (by kernel_rfl) (by decide) (by decide) ⟨BB, FO⟩ ?_ ?_
  · intro i_ hi_ s a X hf hv hn hS
    match i_, hi_ with
    | 0, _ => exact stepV rfl rfl (execMvB rfl ((hf 4 (by decide)).trans t4)) ⟨s, ⟨_, rfl, rfl⟩, hS, fun _ _ => rfl⟩
    | 1, _ => exact stepV rfl rfl (execMvB rfl ((hf 0 (by decide)).trans t0)) ⟨s, ⟨_, rfl, rfl⟩, hS, fun _ _ => rfl⟩
    | 2, _ => exact stepV rfl rfl (execLtIg rfl (hv 0 (by omega) _ rfl _ rfl) (hv 1 (by omega) _ rfl _ rfl)) ⟨s, ⟨_, rfl, rfl⟩, hS, fun _ _ => rfl⟩
    | k_ + 3, h_ => exact absurd h_ (by simp)
  rintro _ a X3 h1 h2 h3 h4 hS
  clear BB
  clear FO
  replace hS : Below V.heap.size V X3 ∧ (X3.ownsRow V.heap.size 3 1 u (i) (intsL (i) (fun j => (j : Int)))) := hS
  obtain ⟨BB, FO⟩ := hS
  replace t0 := (h3 0 (by decide)).trans t0
  replace t3 := (h3 3 (by decide)).trans t3
  replace t4 := (h3 4 (by decide)).trans t4
  have t7 : a.eval (.tmp 7) = .bool (decide ((i : Int) < k)) := h4 2 _ rfl _ rfl
  replace A := (⟨h1, h2.trans A.2⟩ : a.tmps.size = 15 ∧ a.defers = [])
  clear h1 h2 h3 h4
  by_cases hlt : (i : Int) < k
  · rw [decide_eq_true hlt] at t7
    refine wp_cond_true t7 ?_
    refine wp_skip ?_
    clear t7
    refine wp_seq ?_
    refine wp_block ?_
    refine wp_region_sq (σ := Nat × Value) 15 [(0, 10), (1, 11), (2, 12), (3, 13), (4, 3)] (fun j_ s X => match j_ with | 0 => Below V.heap.size V X ∧ (X.ownsRow V.heap.size 3 1 u (i) (intsL (i) (fun j => (j : Int)))) | 1 => Below V.heap.size V X ∧ (X.ownsRow V.heap.size 3 1 u (i) (intsL (i) (fun j => (j : Int)))) | 2 => Below V.heap.size V X ∧ (X.ownsRow V.heap.size 3 1 u (i) (intsL (i) (fun j => (j : Int)))) | 3 => Below V.heap.size V X ∧ (X.ownsRow V.heap.size 3 1 u (i) (intsL (i) (fun j => (j : Int)))) ∧ (X.heap[s.1]? = some (.cells #[.int .i64 ((i : Int))] 3)) | 4 => Below V.heap.size V X ∧ (X.ownsRow V.heap.size 3 1 s.2 (i + 1) (intsL (i + 1) (fun j => (j : Int)))) | _ => Below V.heap.size V X ∧ (X.ownsRow V.heap.size 3 1 s.2 (i + 1) (intsL (i + 1) (fun j => (j : Int))))) (fun s => fun i_ => match i_ with | 0 => u | 1 => .int .i64 ((i : Nat) : Int) | 2 => .slice (some ⟨s.1, 0, none⟩) 1 1 | 3 => s.2 | 4 => s.2 | _ => undef) (0, undef) A.1 (by kernel_rfl) (by decide) (by decide) ⟨BB, FO⟩ ?_ ?_
    · intro i_ hi_ s a X hf hv hn hS
      match i_, hi_ with
      | 0, _ => exact stepV rfl rfl (execMvB rfl ((hn 4 (by omega) _ rfl _ rfl).trans t3)) ⟨s, ⟨_, rfl, rfl⟩, hS, fun _ _ => rfl⟩
      | 1, _ => exact stepV rfl rfl (execMvB rfl ((hf 4 (by decide)).trans t4)) ⟨s, ⟨_, rfl, rfl⟩, hS, fun _ _ => rfl⟩
      | 2, _ =>
        refine stepV rfl rfl (execBsI (z := (i : Int)) rfl (hv 1 (by omega) _ rfl _ rfl)) ⟨(X.heap.size, s.2), ⟨_, rfl, rfl⟩, ⟨(hS.1).trans (((belNew X _)).mono (hS.1).size), (ownD_below hS.2 (belNew X _)), heapNew X _⟩, fun i hi => ?_⟩
        match i, hi with
        | 0, _ => rfl
        | 1, _ => rfl
        | n_ + 2, h_ => omega
      | 3, _ =>
        refine stepAppI (f := fun j => (j : Int)) rfl rfl rfl (hv 0 (by omega) _ rfl _ rfl) (hv 2 (by omega) _ rfl _ rfl) hS.2.1 hS.2.2 (by omega) (hS.1).size fun v' W' own' gr => ⟨(s.1, v'), ⟨_, rfl, rfl⟩, ⟨(hS.1).grown gr (hS.1).size (fun k hk => (hS.2.1.lt k hk).1), own'⟩, fun i hi => ?_⟩
        match i, hi with
        | 0, _ => rfl
        | 1, _ => rfl
        | 2, _ => rfl
        | n_ + 3, h_ => omega
      | 4, _ => exact stepV rfl rfl (execAsgB rfl (hv 3 (by omega) _ rfl _ rfl)) ⟨s, ⟨_, rfl, rfl⟩, hS, fun _ _ => rfl⟩
      | k_ + 5, h_ => exact absurd h_ (by simp)
    rintro ⟨g12, v13⟩ a X5 h1 h2 h3 h4 hS
    clear BB
    clear FO
    replace hS : Below V.heap.size V X5 ∧ (X5.ownsRow V.heap.size 3 1 v13 (i + 1) (intsL (i + 1) (fun j => (j : Int)))) := hS
    obtain ⟨BB, FO2⟩ := hS
    replace t0 := (h3 0 (by decide)).trans t0
    replace t3 : a.eval (.tmp 3) = v13 := h4 4 _ rfl _ rfl
    replace t4 := (h3 4 (by decide)).trans t4
    replace A := (⟨h1, h2.trans A.2⟩ : a.tmps.size = 15 ∧ a.defers = [])
    clear h1 h2 h3 h4
    refine wp_region_sq (σ := Unit) 15 [(0, 8), (1, 9), (2, 4)] (fun j_ s X => match j_ with | 0 => Below V.heap.size V X ∧ (X.ownsRow V.heap.size 3 1 v13 (i + 1) (intsL (i + 1) (fun j => (j : Int)))) | 1 => Below V.heap.size V X ∧ (X.ownsRow V.heap.size 3 1 v13 (i + 1) (intsL (i + 1) (fun j => (j : Int)))) | 2 => Below V.heap.size V X ∧ (X.ownsRow V.heap.size 3 1 v13 (i + 1) (intsL (i + 1) (fun j => (j : Int)))) | _ => Below V.heap.size V X ∧ (X.ownsRow V.heap.size 3 1 v13 (i + 1) (intsL (i + 1) (fun j => (j : Int))))) (fun s => fun i_ => match i_ with | 0 => .int .i64 ((i : Nat) : Int) | 1 => .int .i64 ((i + 1 : Nat) : Int) | 2 => .int .i64 ((i + 1 : Nat) : Int) | _ => undef) () A.1 (by kernel_rfl) (by decide) (by decide) ⟨BB, FO2⟩ ?_ ?_
    · intro i_ hi_ s a X hf hv hn hS
      match i_, hi_ with
      | 0, _ => exact stepV rfl rfl (execMvB rfl ((hn 2 (by omega) _ rfl _ rfl).trans t4)) ⟨s, ⟨_, rfl, rfl⟩, hS, fun _ _ => rfl⟩
      | 1, _ => exact stepV rfl rfl (execAd8 (p := i) (q := 1) rfl (hv 0 (by omega) _ rfl _ rfl) rfl (by omega)) ⟨s, ⟨_, rfl, rfl⟩, hS, fun _ _ => rfl⟩
      | 2, _ => exact stepV rfl rfl (execAsgB rfl (hv 1 (by omega) _ rfl _ rfl)) ⟨s, ⟨_, rfl, rfl⟩, hS, fun _ _ => rfl⟩
      | k_ + 3, h_ => exact absurd h_ (by simp)
    rintro _ a X4 h1 h2 h3 h4 hS
    clear BB
    clear FO2
    replace hS : Below V.heap.size V X4 ∧ (X4.ownsRow V.heap.size 3 1 v13 (i + 1) (intsL (i + 1) (fun j => (j : Int)))) := hS
    obtain ⟨BB, FO2⟩ := hS
    replace t0 := (h3 0 (by decide)).trans t0
    replace t3 := (h3 3 (by decide)).trans t3
    replace t4 : a.eval (.tmp 4) = .int .i64 ((i + 1 : Nat) : Int) := h4 2 _ rfl _ rfl
    replace A := (⟨h1, h2.trans A.2⟩ : a.tmps.size = 15 ∧ a.defers = [])
    clear h1 h2 h3 h4
    exact ⟨⟨i + 1, _, (by omega), A, t0, t3, t4, BB, FO2⟩, by show k.toNat - (intOf (a.eval (.tmp 4))).toNat < k.toNat - (intOf (Act.eval _ (.tmp 4))).toNat; rw [t4, es]; show k.toNat - (i + 1) < k.toNat - i; omega⟩
  · rw [decide_eq_false hlt] at t7
    refine wp_cond_false t7 ?_
    refine wp_exit ?_
    first | refine exit_in ?_ | refine exit_then (exit_in ?_) | refine exit_then (exit_then (exit_in ?_))
    clear t7 es
    have hin : i = k.toNat := by omega
    rw [hin] at FO
    refine wp_seq ?_
    refine wp_region_sq (σ := Unit) 15 [(0, 14), (1, 2)] (fun j_ s X => match j_ with | 0 => Below V.heap.size V X ∧ (X.ownsRow V.heap.size 3 1 u (k.toNat) (intsL (k.toNat) (fun j => (j : Int)))) | 1 => Below V.heap.size V X ∧ (X.ownsRow V.heap.size 3 1 u (k.toNat) (intsL (k.toNat) (fun j => (j : Int)))) | _ => Below V.heap.size V X ∧ (X.ownsRow V.heap.size 3 1 u (k.toNat) (intsL (k.toNat) (fun j => (j : Int))))) (fun s => fun i_ => match i_ with | 0 => u | 1 => u | _ => undef) () A.1 (by kernel_rfl) (by decide) (by decide) ⟨BB, FO⟩ ?_ ?_
    · intro i_ hi_ s a X hf hv hn hS
      match i_, hi_ with
      | 0, _ => exact stepV rfl rfl (execMvB rfl ((hf 3 (by decide)).trans t3)) ⟨s, ⟨_, rfl, rfl⟩, hS, fun _ _ => rfl⟩
      | 1, _ => exact stepV rfl rfl (execAsgB rfl (hv 0 (by omega) _ rfl _ rfl)) ⟨s, ⟨_, rfl, rfl⟩, hS, fun _ _ => rfl⟩
      | k_ + 2, h_ => exact absurd h_ (by simp)
    rintro _ a X6 h1 h2 h3 h4 hS
    clear BB
    clear FO
    replace hS : Below V.heap.size V X6 ∧ (X6.ownsRow V.heap.size 3 1 u (k.toNat) (intsL (k.toNat) (fun j => (j : Int)))) := hS
    obtain ⟨BB, FO⟩ := hS
    have t2 : a.eval (.tmp 2) = u := h4 1 _ rfl _ rfl
    replace A := (⟨h1, h2.trans A.2⟩ : a.tmps.size = 15 ∧ a.defers = [])
    clear h1 h2 h3 h4
    clear t0 t3 t4
    refine wp_ret ?_
    refine bodyPost_ret (results_tmp rfl _ _ _) A.2 ⟨u, ?_, FO, BB⟩
    show Ending.returned (a.eval (.tmp 2)) = _
    rw [t2]
set_option maxRecDepth 100000 in
set_option maxHeartbeats 4000000 in
/-- The reference's Bounds. -/
theorem rbounds (k : Int) (V : World) (hk : k ≤ 17592186044416) :
    Calls Try.prog 25 #[.int .i64 k] V fun e w' => ∃ r, e = .returned r ∧ w'.ownsRow V.heap.size 3 1 r (k - 1).toNat (intsL (k - 1).toNat (fun j => k - (j : Int))) ∧ Below V.heap.size V w' := by
  go_enter Try.func25, Try.ntmps25
  refine wp_seq ?_
  refine wp_region_sqK 15 [(0, 2)] (fun i_ => match i_ with | 0 => .slice none 0 0 | _ => undef) rfl (by kernel_rfl) (by decide) (by decide) ?_ ?_
  · intro i_ hi_ a hf hv hn
    match i_, hi_ with
    | 0, _ => exact stepV rfl rfl (execAsgB rfl rfl) ⟨⟨_, rfl, rfl⟩, rfl⟩
    | k_ + 1, h_ => exact absurd h_ (by simp)
  intro a h1 h2 h3 h4
  have t0 : a.eval (.tmp 0) = .int .i64 k := (h3 0 (by decide)).trans rfl
  have A : a.tmps.size = 15 ∧ a.defers = [] := ⟨h1, h2⟩
  have BW : Below V.heap.size V V := Below.refl _ _
  clear h1 h2 h3 h4
  have BB := BW
  refine wp_seq ?_
  refine wp_region_sq (σ := Unit) 15 [(0, 3)] (fun j_ s X => match j_ with | 0 => Below V.heap.size V X | _ => Below V.heap.size V X) (fun s => fun i_ => match i_ with | 0 => .slice none 0 0 | _ => undef) () A.1 (by kernel_rfl) (by decide) (by decide) (BB) ?_ ?_
  · intro i_ hi_ s a X hf hv hn hS
    match i_, hi_ with
    | 0, _ => exact stepV rfl rfl (execAsgB rfl rfl) ⟨s, ⟨_, rfl, rfl⟩, hS, fun _ _ => rfl⟩
    | k_ + 1, h_ => exact absurd h_ (by simp)
  rintro _ a X1 h1 h2 h3 h4 hS
  clear BB
  replace hS : Below V.heap.size V X1 := hS
  have BB := hS
  clear hS
  replace t0 := (h3 0 (by decide)).trans t0
  have t3 : a.eval (.tmp 3) = .slice none 0 0 := h4 0 _ rfl _ rfl
  replace A := (⟨h1, h2.trans A.2⟩ : a.tmps.size = 15 ∧ a.defers = [])
  clear h1 h2 h3 h4
  have FO : X1.ownsRow V.heap.size 3 1 (.slice none 0 0) 0 (intsL 0 (fun j => k - (j : Int))) := World.ownsRow_nil _ _ _ _
  refine wp_seq ?_
  refine wp_seq ?_
  refine wp_region_sq (σ := Unit) 15 [(0, 5), (1, 4)] (fun j_ s X => match j_ with | 0 => Below V.heap.size V X ∧ (X.ownsRow V.heap.size 3 1 (.slice none 0 0) (0) (intsL (0) (fun j => k - (j : Int)))) | 1 => Below V.heap.size V X ∧ (X.ownsRow V.heap.size 3 1 (.slice none 0 0) (0) (intsL (0) (fun j => k - (j : Int)))) | _ => Below V.heap.size V X ∧ (X.ownsRow V.heap.size 3 1 (.slice none 0 0) (0) (intsL (0) (fun j => k - (j : Int))))) (fun s => fun i_ => match i_ with | 0 => .int .i64 k | 1 => .int .i64 k | _ => undef) () A.1 (by kernel_rfl) (by decide) (by decide) ⟨BB, FO⟩ ?_ ?_
  · intro i_ hi_ s a X hf hv hn hS
    match i_, hi_ with
    | 0, _ => exact stepV rfl rfl (execMvB rfl ((hf 0 (by decide)).trans t0)) ⟨s, ⟨_, rfl, rfl⟩, hS, fun _ _ => rfl⟩
    | 1, _ => exact stepV rfl rfl (execAsgB rfl (hv 0 (by omega) _ rfl _ rfl)) ⟨s, ⟨_, rfl, rfl⟩, hS, fun _ _ => rfl⟩
    | k_ + 2, h_ => exact absurd h_ (by simp)
  rintro _ a X2 h1 h2 h3 h4 hS
  clear BB
  clear FO
  replace hS : Below V.heap.size V X2 ∧ (X2.ownsRow V.heap.size 3 1 (.slice none 0 0) (0) (intsL (0) (fun j => k - (j : Int)))) := hS
  obtain ⟨BB, FO⟩ := hS
  replace t3 := (h3 3 (by decide)).trans t3
  have t4 : a.eval (.tmp 4) = .int .i64 k := h4 1 _ rfl _ rfl
  replace A := (⟨h1, h2.trans A.2⟩ : a.tmps.size = 15 ∧ a.defers = [])
  clear h1 h2 h3 h4
  clear t0
  rw [show k = k - ((0 : Nat) : Int) by omega] at t4
  refine wp_block ?_
  refine wp_loop (fun a W => ∃ (i : Nat) (u : Value), i ≤ (k - 1).toNat ∧ (a.tmps.size = 15 ∧ a.defers = []) ∧ a.eval (.tmp 3) = u ∧ a.eval (.tmp 4) = .int .i64 (k - (i : Int)) ∧ Below V.heap.size V W ∧ (W.ownsRow V.heap.size 3 1 u (i) (intsL (i) (fun j => k - (j : Int))))) (fun a _ => (intOf (a.eval (.tmp 4))).toNat) ⟨0, _, Nat.zero_le _, A, t3, t4, BB, FO⟩ ?_
  clear A t3 t4 BB FO a
  rintro a XL ⟨i, u, hi, A, t3, t4, BB, FO⟩
  have es := t4
  refine wp_seq ?_
  refine wp_seq ?_
  refine wp_region_sq (σ := Unit) 15 [(0, 6), (1, 7)] (fun j_ s X => match j_ with | 0 => Below V.heap.size V X ∧ (X.ownsRow V.heap.size 3 1 u (i) (intsL (i) (fun j => k - (j : Int)))) | 1 => Below V.heap.size V X ∧ (X.ownsRow V.heap.size 3 1 u (i) (intsL (i) (fun j => k - (j : Int)))) | _ => Below V.heap.size V X ∧ (X.ownsRow V.heap.size 3 1 u (i) (intsL (i) (fun j => k - (j : Int))))) (fun s => fun i_ => match i_ with | 0 => .int .i64 (k - (i : Int)) | 1 => .bool (decide (1 < k - (i : Int))) | _ => undef) () A.1 (by kernel_rfl) (by decide) (by decide) ⟨BB, FO⟩ ?_ ?_
  · intro i_ hi_ s a X hf hv hn hS
    match i_, hi_ with
    | 0, _ => exact stepV rfl rfl (execMvB rfl ((hf 4 (by decide)).trans t4)) ⟨s, ⟨_, rfl, rfl⟩, hS, fun _ _ => rfl⟩
    | 1, _ => exact stepV rfl rfl (execGtIg (q := 1) rfl (hv 0 (by omega) _ rfl _ rfl) rfl) ⟨s, ⟨_, rfl, rfl⟩, hS, fun _ _ => rfl⟩
    | k_ + 2, h_ => exact absurd h_ (by simp)
  rintro _ a X3 h1 h2 h3 h4 hS
  clear BB
  clear FO
  replace hS : Below V.heap.size V X3 ∧ (X3.ownsRow V.heap.size 3 1 u (i) (intsL (i) (fun j => k - (j : Int)))) := hS
  obtain ⟨BB, FO⟩ := hS
  replace t3 := (h3 3 (by decide)).trans t3
  replace t4 := (h3 4 (by decide)).trans t4
  have t7 : a.eval (.tmp 7) = .bool (decide (1 < k - (i : Int))) := h4 1 _ rfl _ rfl
  replace A := (⟨h1, h2.trans A.2⟩ : a.tmps.size = 15 ∧ a.defers = [])
  clear h1 h2 h3 h4
  by_cases hlt : 1 < k - (i : Int)
  · rw [decide_eq_true hlt] at t7
    refine wp_cond_true t7 ?_
    refine wp_skip ?_
    clear t7
    refine wp_seq ?_
    refine wp_block ?_
    refine wp_region_sq (σ := Nat × Value) 15 [(0, 10), (1, 11), (2, 12), (3, 13), (4, 3)] (fun j_ s X => match j_ with | 0 => Below V.heap.size V X ∧ (X.ownsRow V.heap.size 3 1 u (i) (intsL (i) (fun j => k - (j : Int)))) | 1 => Below V.heap.size V X ∧ (X.ownsRow V.heap.size 3 1 u (i) (intsL (i) (fun j => k - (j : Int)))) | 2 => Below V.heap.size V X ∧ (X.ownsRow V.heap.size 3 1 u (i) (intsL (i) (fun j => k - (j : Int)))) | 3 => Below V.heap.size V X ∧ (X.ownsRow V.heap.size 3 1 u (i) (intsL (i) (fun j => k - (j : Int)))) ∧ (X.heap[s.1]? = some (.cells #[.int .i64 (k - (i : Int))] 3)) | 4 => Below V.heap.size V X ∧ (X.ownsRow V.heap.size 3 1 s.2 (i + 1) (intsL (i + 1) (fun j => k - (j : Int)))) | _ => Below V.heap.size V X ∧ (X.ownsRow V.heap.size 3 1 s.2 (i + 1) (intsL (i + 1) (fun j => k - (j : Int))))) (fun s => fun i_ => match i_ with | 0 => u | 1 => .int .i64 (k - (i : Int)) | 2 => .slice (some ⟨s.1, 0, none⟩) 1 1 | 3 => s.2 | 4 => s.2 | _ => undef) (0, undef) A.1 (by kernel_rfl) (by decide) (by decide) ⟨BB, FO⟩ ?_ ?_
    · intro i_ hi_ s a X hf hv hn hS
      match i_, hi_ with
      | 0, _ => exact stepV rfl rfl (execMvB rfl ((hn 4 (by omega) _ rfl _ rfl).trans t3)) ⟨s, ⟨_, rfl, rfl⟩, hS, fun _ _ => rfl⟩
      | 1, _ => exact stepV rfl rfl (execMvB rfl ((hf 4 (by decide)).trans t4)) ⟨s, ⟨_, rfl, rfl⟩, hS, fun _ _ => rfl⟩
      | 2, _ =>
        refine stepV rfl rfl (execBsI (z := k - (i : Int)) rfl (hv 1 (by omega) _ rfl _ rfl)) ⟨(X.heap.size, s.2), ⟨_, rfl, rfl⟩, ⟨(hS.1).trans (((belNew X _)).mono (hS.1).size), (ownD_below hS.2 (belNew X _)), heapNew X _⟩, fun i hi => ?_⟩
        match i, hi with
        | 0, _ => rfl
        | 1, _ => rfl
        | n_ + 2, h_ => omega
      | 3, _ =>
        refine stepAppI (f := fun j => k - (j : Int)) rfl rfl rfl (hv 0 (by omega) _ rfl _ rfl) (hv 2 (by omega) _ rfl _ rfl) hS.2.1 hS.2.2 (by omega) (hS.1).size fun v' W' own' gr => ⟨(s.1, v'), ⟨_, rfl, rfl⟩, ⟨(hS.1).grown gr (hS.1).size (fun k hk => (hS.2.1.lt k hk).1), own'⟩, fun i hi => ?_⟩
        match i, hi with
        | 0, _ => rfl
        | 1, _ => rfl
        | 2, _ => rfl
        | n_ + 3, h_ => omega
      | 4, _ => exact stepV rfl rfl (execAsgB rfl (hv 3 (by omega) _ rfl _ rfl)) ⟨s, ⟨_, rfl, rfl⟩, hS, fun _ _ => rfl⟩
      | k_ + 5, h_ => exact absurd h_ (by simp)
    rintro ⟨g12, v13⟩ a X5 h1 h2 h3 h4 hS
    clear BB
    clear FO
    replace hS : Below V.heap.size V X5 ∧ (X5.ownsRow V.heap.size 3 1 v13 (i + 1) (intsL (i + 1) (fun j => k - (j : Int)))) := hS
    obtain ⟨BB, FO2⟩ := hS
    replace t3 : a.eval (.tmp 3) = v13 := h4 4 _ rfl _ rfl
    replace t4 := (h3 4 (by decide)).trans t4
    replace A := (⟨h1, h2.trans A.2⟩ : a.tmps.size = 15 ∧ a.defers = [])
    clear h1 h2 h3 h4
    refine wp_region_sq (σ := Unit) 15 [(0, 8), (1, 9), (2, 4)] (fun j_ s X => match j_ with | 0 => Below V.heap.size V X ∧ (X.ownsRow V.heap.size 3 1 v13 (i + 1) (intsL (i + 1) (fun j => k - (j : Int)))) | 1 => Below V.heap.size V X ∧ (X.ownsRow V.heap.size 3 1 v13 (i + 1) (intsL (i + 1) (fun j => k - (j : Int)))) | 2 => Below V.heap.size V X ∧ (X.ownsRow V.heap.size 3 1 v13 (i + 1) (intsL (i + 1) (fun j => k - (j : Int)))) | _ => Below V.heap.size V X ∧ (X.ownsRow V.heap.size 3 1 v13 (i + 1) (intsL (i + 1) (fun j => k - (j : Int))))) (fun s => fun i_ => match i_ with | 0 => .int .i64 (k - (i : Int)) | 1 => .int .i64 (k - ((i + 1 : Nat) : Int)) | 2 => .int .i64 (k - ((i + 1 : Nat) : Int)) | _ => undef) () A.1 (by kernel_rfl) (by decide) (by decide) ⟨BB, FO2⟩ ?_ ?_
    · intro i_ hi_ s a X hf hv hn hS
      match i_, hi_ with
      | 0, _ => exact stepV rfl rfl (execMvB rfl ((hn 2 (by omega) _ rfl _ rfl).trans t4)) ⟨s, ⟨_, rfl, rfl⟩, hS, fun _ _ => rfl⟩
      | 1, _ => exact stepV rfl rfl (execSubIg (z := k - ((i + 1 : Nat) : Int)) rfl (hv 0 (by omega) _ rfl _ rfl) rfl (by omega) (by omega) (by omega)) ⟨s, ⟨_, rfl, rfl⟩, hS, fun _ _ => rfl⟩
      | 2, _ => exact stepV rfl rfl (execAsgB rfl (hv 1 (by omega) _ rfl _ rfl)) ⟨s, ⟨_, rfl, rfl⟩, hS, fun _ _ => rfl⟩
      | k_ + 3, h_ => exact absurd h_ (by simp)
    rintro _ a X4 h1 h2 h3 h4 hS
    clear BB
    clear FO2
    replace hS : Below V.heap.size V X4 ∧ (X4.ownsRow V.heap.size 3 1 v13 (i + 1) (intsL (i + 1) (fun j => k - (j : Int)))) := hS
    obtain ⟨BB, FO2⟩ := hS
    replace t3 := (h3 3 (by decide)).trans t3
    replace t4 : a.eval (.tmp 4) = .int .i64 (k - ((i + 1 : Nat) : Int)) := h4 2 _ rfl _ rfl
    replace A := (⟨h1, h2.trans A.2⟩ : a.tmps.size = 15 ∧ a.defers = [])
    clear h1 h2 h3 h4
    refine ⟨⟨i + 1, _, by omega, A, t3, t4, BB, FO2⟩, ?_⟩
    show (intOf (a.eval (.tmp 4))).toNat < (intOf (Act.eval _ (.tmp 4))).toNat
    rw [t4, es]
    show (k - ((i + 1 : Nat) : Int)).toNat < (k - (i : Int)).toNat
    omega
  · rw [decide_eq_false hlt] at t7
    refine wp_cond_false t7 ?_
    refine wp_exit ?_
    first | refine exit_in ?_ | refine exit_then (exit_in ?_) | refine exit_then (exit_then (exit_in ?_))
    clear t7 es
    have hin : i = (k - 1).toNat := by omega
    rw [hin] at FO
    clear t4
    refine wp_seq ?_
    refine wp_region_sq (σ := Unit) 15 [(0, 14), (1, 2)] (fun j_ s X => match j_ with | 0 => Below V.heap.size V X ∧ (X.ownsRow V.heap.size 3 1 u ((k - 1).toNat) (intsL ((k - 1).toNat) (fun j => k - (j : Int)))) | 1 => Below V.heap.size V X ∧ (X.ownsRow V.heap.size 3 1 u ((k - 1).toNat) (intsL ((k - 1).toNat) (fun j => k - (j : Int)))) | _ => Below V.heap.size V X ∧ (X.ownsRow V.heap.size 3 1 u ((k - 1).toNat) (intsL ((k - 1).toNat) (fun j => k - (j : Int))))) (fun s => fun i_ => match i_ with | 0 => u | 1 => u | _ => undef) () A.1 (by kernel_rfl) (by decide) (by decide) ⟨BB, FO⟩ ?_ ?_
    · intro i_ hi_ s a X hf hv hn hS
      match i_, hi_ with
      | 0, _ => exact stepV rfl rfl (execMvB rfl ((hf 3 (by decide)).trans t3)) ⟨s, ⟨_, rfl, rfl⟩, hS, fun _ _ => rfl⟩
      | 1, _ => exact stepV rfl rfl (execAsgB rfl (hv 0 (by omega) _ rfl _ rfl)) ⟨s, ⟨_, rfl, rfl⟩, hS, fun _ _ => rfl⟩
      | k_ + 2, h_ => exact absurd h_ (by simp)
    rintro _ a X6 h1 h2 h3 h4 hS
    clear BB
    clear FO
    replace hS : Below V.heap.size V X6 ∧ (X6.ownsRow V.heap.size 3 1 u ((k - 1).toNat) (intsL ((k - 1).toNat) (fun j => k - (j : Int)))) := hS
    obtain ⟨BB, FO⟩ := hS
    have t2 : a.eval (.tmp 2) = u := h4 1 _ rfl _ rfl
    replace A := (⟨h1, h2.trans A.2⟩ : a.tmps.size = 15 ∧ a.defers = [])
    clear h1 h2 h3 h4
    clear t3
    refine wp_ret ?_
    refine bodyPost_ret (results_tmp rfl _ _ _) A.2 ⟨u, ?_, FO, BB⟩
    show Ending.returned (a.eval (.tmp 2)) = _
    rw [t2]
set_option maxRecDepth 100000 in
set_option maxHeartbeats 4000000 in
/-- The reference's Put. -/
theorem rput (f g : Nat → Int) (n m : Nat) (v u0 : Value) (V : World) (hv : SliceI V v n f) (hn : n ≤ 17592186044416) (hu : SliceI V u0 m g) (hfl : ∀ i, i < n → 0 ≤ f i ∧ f i < m) :
    Calls Try.prog 42 #[v, u0] V fun e w' => ∃ r, e = .returned r ∧ w'.ownsRow V.heap.size 3 1 r n (intsL n (fun j => g (f j).toNat)) ∧ Below V.heap.size V w' := by
  obtain ⟨ia, ic, rfl, -, -, hsh⟩ := id hv.shape
  obtain ⟨ja, jc, rfl, -, -, hsj⟩ := id hu.shape
  have FI := hv
  have FJ := hu
  go_enter Try.func42, Try.ntmps42
  refine wp_seq ?_
  refine wp_region_sqK 24 [(0, 4)] (fun i_ => match i_ with | 0 => .slice none 0 0 | _ => undef) rfl (by kernel_rfl) (by decide) (by decide) ?_ ?_
  · intro i_ hi_ a hf hv hn
    match i_, hi_ with
    | 0, _ => exact stepV rfl rfl (execAsgB rfl rfl) ⟨⟨_, rfl, rfl⟩, rfl⟩
    | k_ + 1, h_ => exact absurd h_ (by simp)
  intro a h1 h2 h3 h4
  have t0 : a.eval (.tmp 0) = .slice ia n ic := (h3 0 (by decide)).trans rfl
  have t1 : a.eval (.tmp 1) = .slice ja m jc := (h3 1 (by decide)).trans rfl
  have A : a.tmps.size = 24 ∧ a.defers = [] := ⟨h1, h2⟩
  have BW : Below V.heap.size V V := Below.refl _ _
  clear h1 h2 h3 h4
  have BB := BW
  refine wp_seq ?_
  refine wp_region_sq (σ := Unit) 24 [(0, 5)] (fun j_ s X => match j_ with | 0 => Below V.heap.size V X | _ => Below V.heap.size V X) (fun s => fun i_ => match i_ with | 0 => .slice none 0 0 | _ => undef) () A.1 (by kernel_rfl) (by decide) (by decide) (BB) ?_ ?_
  · intro i_ hi_ s a X hf hv hn hS
    match i_, hi_ with
    | 0, _ => exact stepV rfl rfl (execAsgB rfl rfl) ⟨s, ⟨_, rfl, rfl⟩, hS, fun _ _ => rfl⟩
    | k_ + 1, h_ => exact absurd h_ (by simp)
  rintro _ a X1 h1 h2 h3 h4 hS
  clear BB
  replace hS : Below V.heap.size V X1 := hS
  have BB := hS
  clear hS
  replace t0 := (h3 0 (by decide)).trans t0
  replace t1 := (h3 1 (by decide)).trans t1
  have t5 : a.eval (.tmp 5) = .slice none 0 0 := h4 0 _ rfl _ rfl
  replace A := (⟨h1, h2.trans A.2⟩ : a.tmps.size = 24 ∧ a.defers = [])
  clear h1 h2 h3 h4
  have FO : X1.ownsRow V.heap.size 3 1 (.slice none 0 0) 0 (intsL 0 (fun j => g (f j).toNat)) := World.ownsRow_nil _ _ _ _
  refine wp_seq ?_
  refine wp_seq ?_
  refine wp_region_sq (σ := Unit) 24 [(0, 6)] (fun j_ s X => match j_ with | 0 => Below V.heap.size V X ∧ (X.ownsRow V.heap.size 3 1 (.slice none 0 0) (0) (intsL (0) (fun j => g (f j).toNat))) | _ => Below V.heap.size V X ∧ (X.ownsRow V.heap.size 3 1 (.slice none 0 0) (0) (intsL (0) (fun j => g (f j).toNat)))) (fun s => fun i_ => match i_ with | 0 => .int .i64 ((0 : Nat) : Int) | _ => undef) () A.1 (by kernel_rfl) (by decide) (by decide) ⟨BB, FO⟩ ?_ ?_
  · intro i_ hi_ s a X hf hv hn hS
    match i_, hi_ with
    | 0, _ => exact stepV rfl rfl (execAsgB rfl rfl) ⟨s, ⟨_, rfl, rfl⟩, hS, fun _ _ => rfl⟩
    | k_ + 1, h_ => exact absurd h_ (by simp)
  rintro _ a X2 h1 h2 h3 h4 hS
  clear BB
  clear FO
  replace hS : Below V.heap.size V X2 ∧ (X2.ownsRow V.heap.size 3 1 (.slice none 0 0) (0) (intsL (0) (fun j => g (f j).toNat))) := hS
  obtain ⟨BB, FO⟩ := hS
  replace t0 := (h3 0 (by decide)).trans t0
  replace t1 := (h3 1 (by decide)).trans t1
  replace t5 := (h3 5 (by decide)).trans t5
  have t6 : a.eval (.tmp 6) = .int .i64 ((0 : Nat) : Int) := h4 0 _ rfl _ rfl
  replace A := (⟨h1, h2.trans A.2⟩ : a.tmps.size = 24 ∧ a.defers = [])
  clear h1 h2 h3 h4
  refine wp_block ?_
  refine wp_loop (fun a W => ∃ (i : Nat) (u : Value), i ≤ n ∧ (a.tmps.size = 24 ∧ a.defers = []) ∧ a.eval (.tmp 0) = .slice ia n ic ∧ a.eval (.tmp 1) = .slice ja m jc ∧ a.eval (.tmp 5) = u ∧ a.eval (.tmp 6) = .int .i64 ((i : Nat) : Int) ∧ Below V.heap.size V W ∧ (W.ownsRow V.heap.size 3 1 u (i) (intsL (i) (fun j => g (f j).toNat)))) (fun a _ => n - (intOf (a.eval (.tmp 6))).toNat) ⟨0, _, Nat.zero_le _, A, t0, t1, t5, t6, BB, FO⟩ ?_
  clear A t0 t1 t5 t6 BB FO a
  rintro a XL3 ⟨i, u, hi, A, t0, t1, t5, t6, BB, FO⟩
  have es := t6
  refine wp_seq ?_
  refine wp_seq ?_
  refine wp_region_sq (σ := Unit) 24 [(0, 7), (1, 8), (2, 9), (3, 10)] (fun j_ s X => match j_ with | 0 => Below V.heap.size V X ∧ (X.ownsRow V.heap.size 3 1 u (i) (intsL (i) (fun j => g (f j).toNat))) | 1 => Below V.heap.size V X ∧ (X.ownsRow V.heap.size 3 1 u (i) (intsL (i) (fun j => g (f j).toNat))) | 2 => Below V.heap.size V X ∧ (X.ownsRow V.heap.size 3 1 u (i) (intsL (i) (fun j => g (f j).toNat))) | 3 => Below V.heap.size V X ∧ (X.ownsRow V.heap.size 3 1 u (i) (intsL (i) (fun j => g (f j).toNat))) | _ => Below V.heap.size V X ∧ (X.ownsRow V.heap.size 3 1 u (i) (intsL (i) (fun j => g (f j).toNat)))) (fun s => fun i_ => match i_ with | 0 => .int .i64 ((i : Nat) : Int) | 1 => .slice ia n ic | 2 => .int .i64 ((n : Nat) : Int) | 3 => .bool (decide (i < n)) | _ => undef) () A.1 (by kernel_rfl) (by decide) (by decide) ⟨BB, FO⟩ ?_ ?_
  · intro i_ hi_ s a X hf hv hn hS
    match i_, hi_ with
    | 0, _ => exact stepV rfl rfl (execMvB rfl ((hf 6 (by decide)).trans t6)) ⟨s, ⟨_, rfl, rfl⟩, hS, fun _ _ => rfl⟩
    | 1, _ => exact stepV rfl rfl (execMvB rfl ((hf 0 (by decide)).trans t0)) ⟨s, ⟨_, rfl, rfl⟩, hS, fun _ _ => rfl⟩
    | 2, _ => exact stepV rfl rfl (execLenI (len := n) rfl (hv 1 (by omega) _ rfl _ rfl) ((FI.on hS.1)).shp) ⟨s, ⟨_, rfl, rfl⟩, hS, fun _ _ => rfl⟩
    | 3, _ => exact stepV rfl rfl (execLtW (p := i) (q := n) rfl (hv 0 (by omega) _ rfl _ rfl) (hv 2 (by omega) _ rfl _ rfl)) ⟨s, ⟨_, rfl, rfl⟩, hS, fun _ _ => rfl⟩
    | k_ + 4, h_ => exact absurd h_ (by simp)
  rintro _ a X3 h1 h2 h3 h4 hS
  clear BB
  clear FO
  replace hS : Below V.heap.size V X3 ∧ (X3.ownsRow V.heap.size 3 1 u (i) (intsL (i) (fun j => g (f j).toNat))) := hS
  obtain ⟨BB, FO⟩ := hS
  replace t0 := (h3 0 (by decide)).trans t0
  replace t1 := (h3 1 (by decide)).trans t1
  replace t5 := (h3 5 (by decide)).trans t5
  replace t6 := (h3 6 (by decide)).trans t6
  have t10 : a.eval (.tmp 10) = .bool (decide (i < n)) := h4 3 _ rfl _ rfl
  replace A := (⟨h1, h2.trans A.2⟩ : a.tmps.size = 24 ∧ a.defers = [])
  clear h1 h2 h3 h4
  by_cases hlt : i < n
  · rw [decide_eq_true hlt] at t10
    refine wp_cond_true t10 ?_
    refine wp_skip ?_
    clear t10
    refine wp_seq ?_
    refine wp_block ?_
    obtain ⟨w, ew⟩ : ∃ w : Nat, f i = w := ⟨(f i).toNat, by have := hfl i hlt; omega⟩
    have hw : w < m := by have := hfl i hlt; omega
    obtain ⟨ib, io, rfl, hib, hcell⟩ := hsh (by omega)
    have cI : ∀ k, k < n → ∀ X, Below V.heap.size V X → X.cell? ⟨ib, io + k, none⟩ = some (.int .i64 (f k)) := fun k hk X hX => by rw [cell_below hX hib]; exact hcell k hk
    obtain ⟨jb, jo, rfl, hjb, hcelj⟩ := hsj (by omega)
    have cW : ∀ X, Below V.heap.size V X → X.cell? ⟨ib, io + i, none⟩ = some (.int .i64 ((w : Nat) : Int)) := fun X hX => by rw [cI i hlt X hX, ew]
    have cJ : ∀ X, Below V.heap.size V X → X.cell? ⟨jb, jo + w, none⟩ = some (.int .i64 (g (f i).toNat)) := fun X hX => by rw [cell_below hX hjb, hcelj w hw, ew]; rfl
    refine wp_region_sq (σ := Nat × Value) 24 [(0, 13), (1, 14), (2, 15), (3, 16), (4, 17), (5, 18), (6, 19), (7, 20), (8, 21), (9, 22), (10, 5)] (fun j_ s X => match j_ with | 0 => Below V.heap.size V X ∧ (X.ownsRow V.heap.size 3 1 u (i) (intsL (i) (fun j => g (f j).toNat))) | 1 => Below V.heap.size V X ∧ (X.ownsRow V.heap.size 3 1 u (i) (intsL (i) (fun j => g (f j).toNat))) | 2 => Below V.heap.size V X ∧ (X.ownsRow V.heap.size 3 1 u (i) (intsL (i) (fun j => g (f j).toNat))) | 3 => Below V.heap.size V X ∧ (X.ownsRow V.heap.size 3 1 u (i) (intsL (i) (fun j => g (f j).toNat))) | 4 => Below V.heap.size V X ∧ (X.ownsRow V.heap.size 3 1 u (i) (intsL (i) (fun j => g (f j).toNat))) | 5 => Below V.heap.size V X ∧ (X.ownsRow V.heap.size 3 1 u (i) (intsL (i) (fun j => g (f j).toNat))) | 6 => Below V.heap.size V X ∧ (X.ownsRow V.heap.size 3 1 u (i) (intsL (i) (fun j => g (f j).toNat))) | 7 => Below V.heap.size V X ∧ (X.ownsRow V.heap.size 3 1 u (i) (intsL (i) (fun j => g (f j).toNat))) | 8 => Below V.heap.size V X ∧ (X.ownsRow V.heap.size 3 1 u (i) (intsL (i) (fun j => g (f j).toNat))) | 9 => Below V.heap.size V X ∧ (X.ownsRow V.heap.size 3 1 u (i) (intsL (i) (fun j => g (f j).toNat))) ∧ (X.heap[s.1]? = some (.cells #[.int .i64 (g (f i).toNat)] 3)) | 10 => Below V.heap.size V X ∧ (X.ownsRow V.heap.size 3 1 s.2 (i + 1) (intsL (i + 1) (fun j => g (f j).toNat))) | _ => Below V.heap.size V X ∧ (X.ownsRow V.heap.size 3 1 s.2 (i + 1) (intsL (i + 1) (fun j => g (f j).toNat)))) (fun s => fun i_ => match i_ with | 0 => u | 1 => .slice (some ⟨jb, jo, none⟩) m jc | 2 => .slice (some ⟨ib, io, none⟩) n ic | 3 => .int .i64 ((i : Nat) : Int) | 4 => .pointer (some ⟨ib, io + i, none⟩) | 5 => .int .i64 ((w : Nat) : Int) | 6 => .pointer (some ⟨jb, jo + w, none⟩) | 7 => .int .i64 (g (f i).toNat) | 8 => .slice (some ⟨s.1, 0, none⟩) 1 1 | 9 => s.2 | 10 => s.2 | _ => undef) (0, undef) A.1 (by kernel_rfl) (by decide) (by decide) ⟨BB, FO⟩ ?_ ?_
    · intro i_ hi_ s a X hf hv hn hS
      match i_, hi_ with
      | 0, _ => exact stepV rfl rfl (execMvB rfl ((hn 10 (by omega) _ rfl _ rfl).trans t5)) ⟨s, ⟨_, rfl, rfl⟩, hS, fun _ _ => rfl⟩
      | 1, _ => exact stepV rfl rfl (execMvB rfl ((hf 1 (by decide)).trans t1)) ⟨s, ⟨_, rfl, rfl⟩, hS, fun _ _ => rfl⟩
      | 2, _ => exact stepV rfl rfl (execMvB rfl ((hf 0 (by decide)).trans t0)) ⟨s, ⟨_, rfl, rfl⟩, hS, fun _ _ => rfl⟩
      | 3, _ => exact stepV rfl rfl (execMvB rfl ((hf 6 (by decide)).trans t6)) ⟨s, ⟨_, rfl, rfl⟩, hS, fun _ _ => rfl⟩
      | 4, _ => exact stepV rfl rfl (execIdxN (k := i) rfl (hv 2 (by omega) _ rfl _ rfl) (hv 3 (by omega) _ rfl _ rfl) hlt) ⟨s, ⟨_, rfl, rfl⟩, hS, fun _ _ => rfl⟩
      | 5, _ => exact stepV rfl rfl (execLd3 rfl (hv 4 (by omega) _ rfl _ rfl) (cW X hS.1)) ⟨s, ⟨_, rfl, rfl⟩, hS, fun _ _ => rfl⟩
      | 6, _ => exact stepV rfl rfl (execIdxN (k := w) rfl (hv 1 (by omega) _ rfl _ rfl) (hv 5 (by omega) _ rfl _ rfl) hw) ⟨s, ⟨_, rfl, rfl⟩, hS, fun _ _ => rfl⟩
      | 7, _ => exact stepV rfl rfl (execLd3 rfl (hv 6 (by omega) _ rfl _ rfl) (cJ X hS.1)) ⟨s, ⟨_, rfl, rfl⟩, hS, fun _ _ => rfl⟩
      | 8, _ =>
        refine stepV rfl rfl (execBsI (z := g (f i).toNat) rfl (hv 7 (by omega) _ rfl _ rfl)) ⟨(X.heap.size, s.2), ⟨_, rfl, rfl⟩, ⟨(hS.1).trans (((belNew X _)).mono (hS.1).size), (ownD_below hS.2 (belNew X _)), heapNew X _⟩, fun i hi => ?_⟩
        match i, hi with
        | 0, _ => rfl
        | 1, _ => rfl
        | 2, _ => rfl
        | 3, _ => rfl
        | 4, _ => rfl
        | 5, _ => rfl
        | 6, _ => rfl
        | 7, _ => rfl
        | n_ + 8, h_ => omega
      | 9, _ =>
        refine stepAppI (f := fun j => g (f j).toNat) rfl rfl rfl (hv 0 (by omega) _ rfl _ rfl) (hv 8 (by omega) _ rfl _ rfl) hS.2.1 hS.2.2 (by omega) (hS.1).size fun v' W' own' gr => ⟨(s.1, v'), ⟨_, rfl, rfl⟩, ⟨(hS.1).grown gr (hS.1).size (fun k hk => (hS.2.1.lt k hk).1), own'⟩, fun i hi => ?_⟩
        match i, hi with
        | 0, _ => rfl
        | 1, _ => rfl
        | 2, _ => rfl
        | 3, _ => rfl
        | 4, _ => rfl
        | 5, _ => rfl
        | 6, _ => rfl
        | 7, _ => rfl
        | 8, _ => rfl
        | n_ + 9, h_ => omega
      | 10, _ => exact stepV rfl rfl (execAsgB rfl (hv 9 (by omega) _ rfl _ rfl)) ⟨s, ⟨_, rfl, rfl⟩, hS, fun _ _ => rfl⟩
      | k_ + 11, h_ => exact absurd h_ (by simp)
    rintro ⟨g21, v22⟩ a X5 h1 h2 h3 h4 hS
    clear BB
    clear FO
    replace hS : Below V.heap.size V X5 ∧ (X5.ownsRow V.heap.size 3 1 v22 (i + 1) (intsL (i + 1) (fun j => g (f j).toNat))) := hS
    obtain ⟨BB, FO2⟩ := hS
    replace t0 := (h3 0 (by decide)).trans t0
    replace t1 := (h3 1 (by decide)).trans t1
    replace t5 : a.eval (.tmp 5) = v22 := h4 10 _ rfl _ rfl
    replace t6 := (h3 6 (by decide)).trans t6
    replace A := (⟨h1, h2.trans A.2⟩ : a.tmps.size = 24 ∧ a.defers = [])
    clear h1 h2 h3 h4
    refine wp_region_sq (σ := Unit) 24 [(0, 11), (1, 12), (2, 6)] (fun j_ s X => match j_ with | 0 => Below V.heap.size V X ∧ (X.ownsRow V.heap.size 3 1 v22 (i + 1) (intsL (i + 1) (fun j => g (f j).toNat))) | 1 => Below V.heap.size V X ∧ (X.ownsRow V.heap.size 3 1 v22 (i + 1) (intsL (i + 1) (fun j => g (f j).toNat))) | 2 => Below V.heap.size V X ∧ (X.ownsRow V.heap.size 3 1 v22 (i + 1) (intsL (i + 1) (fun j => g (f j).toNat))) | _ => Below V.heap.size V X ∧ (X.ownsRow V.heap.size 3 1 v22 (i + 1) (intsL (i + 1) (fun j => g (f j).toNat)))) (fun s => fun i_ => match i_ with | 0 => .int .i64 ((i : Nat) : Int) | 1 => .int .i64 ((i + 1 : Nat) : Int) | 2 => .int .i64 ((i + 1 : Nat) : Int) | _ => undef) () A.1 (by kernel_rfl) (by decide) (by decide) ⟨BB, FO2⟩ ?_ ?_
    · intro i_ hi_ s a X hf hv hn hS
      match i_, hi_ with
      | 0, _ => exact stepV rfl rfl (execMvB rfl ((hn 2 (by omega) _ rfl _ rfl).trans t6)) ⟨s, ⟨_, rfl, rfl⟩, hS, fun _ _ => rfl⟩
      | 1, _ => exact stepV rfl rfl (execAd8 (p := i) (q := 1) rfl (hv 0 (by omega) _ rfl _ rfl) rfl (by omega)) ⟨s, ⟨_, rfl, rfl⟩, hS, fun _ _ => rfl⟩
      | 2, _ => exact stepV rfl rfl (execAsgB rfl (hv 1 (by omega) _ rfl _ rfl)) ⟨s, ⟨_, rfl, rfl⟩, hS, fun _ _ => rfl⟩
      | k_ + 3, h_ => exact absurd h_ (by simp)
    rintro _ a X4 h1 h2 h3 h4 hS
    clear BB
    clear FO2
    replace hS : Below V.heap.size V X4 ∧ (X4.ownsRow V.heap.size 3 1 v22 (i + 1) (intsL (i + 1) (fun j => g (f j).toNat))) := hS
    obtain ⟨BB, FO2⟩ := hS
    replace t0 := (h3 0 (by decide)).trans t0
    replace t1 := (h3 1 (by decide)).trans t1
    replace t5 := (h3 5 (by decide)).trans t5
    replace t6 : a.eval (.tmp 6) = .int .i64 ((i + 1 : Nat) : Int) := h4 2 _ rfl _ rfl
    replace A := (⟨h1, h2.trans A.2⟩ : a.tmps.size = 24 ∧ a.defers = [])
    clear h1 h2 h3 h4
    exact ⟨⟨i + 1, _, hlt, A, t0, t1, t5, t6, BB, FO2⟩, by show n - (intOf (a.eval (.tmp 6))).toNat < n - (intOf (Act.eval _ (.tmp 6))).toNat; rw [t6, es]; show n - (i + 1) < n - i; omega⟩
  · rw [decide_eq_false hlt] at t10
    refine wp_cond_false t10 ?_
    refine wp_exit ?_
    first | refine exit_in ?_ | refine exit_then (exit_in ?_) | refine exit_then (exit_then (exit_in ?_))
    clear t10 es
    have hin : i = n := by omega
    rw [hin] at FO
    refine wp_seq ?_
    refine wp_region_sq (σ := Unit) 24 [(0, 23), (1, 4)] (fun j_ s X => match j_ with | 0 => Below V.heap.size V X ∧ (X.ownsRow V.heap.size 3 1 u (n) (intsL (n) (fun j => g (f j).toNat))) | 1 => Below V.heap.size V X ∧ (X.ownsRow V.heap.size 3 1 u (n) (intsL (n) (fun j => g (f j).toNat))) | _ => Below V.heap.size V X ∧ (X.ownsRow V.heap.size 3 1 u (n) (intsL (n) (fun j => g (f j).toNat)))) (fun s => fun i_ => match i_ with | 0 => u | 1 => u | _ => undef) () A.1 (by kernel_rfl) (by decide) (by decide) ⟨BB, FO⟩ ?_ ?_
    · intro i_ hi_ s a X hf hv hn hS
      match i_, hi_ with
      | 0, _ => exact stepV rfl rfl (execMvB rfl ((hf 5 (by decide)).trans t5)) ⟨s, ⟨_, rfl, rfl⟩, hS, fun _ _ => rfl⟩
      | 1, _ => exact stepV rfl rfl (execAsgB rfl (hv 0 (by omega) _ rfl _ rfl)) ⟨s, ⟨_, rfl, rfl⟩, hS, fun _ _ => rfl⟩
      | k_ + 2, h_ => exact absurd h_ (by simp)
    rintro _ a X6 h1 h2 h3 h4 hS
    clear BB
    clear FO
    replace hS : Below V.heap.size V X6 ∧ (X6.ownsRow V.heap.size 3 1 u (n) (intsL (n) (fun j => g (f j).toNat))) := hS
    obtain ⟨BB, FO⟩ := hS
    have t4 : a.eval (.tmp 4) = u := h4 1 _ rfl _ rfl
    replace A := (⟨h1, h2.trans A.2⟩ : a.tmps.size = 24 ∧ a.defers = [])
    clear h1 h2 h3 h4
    clear t0 t1 t5 t6
    refine wp_ret ?_
    refine bodyPost_ret (results_tmp rfl _ _ _) A.2 ⟨u, ?_, FO, BB⟩
    show Ending.returned (a.eval (.tmp 4)) = _
    rw [t4]
end Go.Proofs.Ythiakjmjpchckaa.Prm
