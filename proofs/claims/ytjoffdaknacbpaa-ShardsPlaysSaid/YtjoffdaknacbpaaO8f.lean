import Derived.Test.YtjoffdaknacbpaaO8e
namespace Go.Proofs.Ytjoffdaknacbpaa.Sha
open Go.RowKit Gf8 Aes By8 Cel Cf Win Drw
open Go.ChangeMaps Go.MapKept
/- The program's New, made, of, Offer, Lowest, Len. Written by tools/mkO8f.py. -/

theorem made_sh (n : Nat) : madeCells #[.int .i32 0, .int .u32 0, .map none] (n * 3) = shA n (fun _ => none) := by
  apply Array.ext_getElem?
  intro i
  by_cases h : i < n * 3
  · obtain ⟨j, r, hr, rfl⟩ : ∃ j r, r < 3 ∧ i = j * 3 + r := ⟨i / 3, i % 3, by omega, by omega⟩
    obtain ⟨a1, a2, a3⟩ := shA_at (n := n) (i := j) (fun _ => none) (by omega)
    have hz : (madeCells #[.int .i32 0, .int .u32 0, .map none] (n * 3))[j * 3 + r]? = some ((#[Value.int .i32 0, .int .u32 0, .map none])[r % 3]!) := by
      simp [madeCells, h]
    rw [hz]
    match r, hr with
    | 0, _ => exact a1.symm
    | 1, _ => exact a2.symm
    | 2, _ => exact a3.symm
  · rw [Array.getElem?_eq_none (by simp [madeCells]; omega), Array.getElem?_eq_none (by rw [shA_size]; omega)]
section
variable {o : Oper} {a : Act} {w : World}
theorem execIdxSs {x i : Operand} {b n cap k : Nat} (ho : o.op = .indexAddr 55 x i) (hx : a.eval x = .slice (some ⟨b, 0, none⟩) n cap) (hi : a.eval i = .int .i64 ((k : Nat) : Int)) (hk : k < n) : (execOp a.eval o).run Try.prog w = .ok (.value (.pointer (some ⟨b, k * 3, none⟩))) w := by
  unfold execOp
  simp only [ho, hx, hi]
  simp [go_sem, hk]
theorem execLdSs {x : Operand} {b k : Nat} {v : Value} (ho : o.op = .load 55 x) (hx : a.eval x = .pointer (some ⟨b, k, none⟩)) (hc : w.cell? ⟨b, k, none⟩ = some v) : (execOp a.eval o).run Try.prog w = .ok (.value v) w := by
  unfold execOp
  simp only [ho, hx]
  simp [go_sem, hc]
theorem execLenSs {x : Operand} {v : Value} {len : Nat} (ho : o.op = .call { callee := .builtin .len, args := #[x], argTypes := #[55] }) (hx : a.eval x = v) (hv : ∃ ao c, v = .slice ao len c) : (execOp a.eval o).run Try.prog w = .ok (.value (.int .i64 ((len : Nat) : Int))) w := by
  obtain ⟨ao, c, rfl⟩ := hv
  unfold execOp
  simp only [ho, resolve, invoke, builtin, List.map_toArray, List.map_cons, List.map_nil, hx]
  simp [go_sem]
theorem execPeqln {x : Operand} (ho : o.op = .binOp .eql 24 x (.const (.pointer none)) 24) (hx : a.eval x = .pointer none) : (execOp a.eval o).run Try.prog w = .ok (.value (.bool true)) w := by
  unfold execOp
  simp only [ho, hx]
  simp [go_sem]
theorem execPeqls {x : Operand} {b k : Nat} (ho : o.op = .binOp .eql 24 x (.const (.pointer none)) 24) (hx : a.eval x = .pointer (some ⟨b, k, none⟩)) : (execOp a.eval o).run Try.prog w = .ok (.value (.bool false)) w := by
  unfold execOp
  simp only [ho, hx]
  simp [go_sem]
theorem execPneqn {x : Operand} (ho : o.op = .binOp .neq 24 x (.const (.pointer none)) 24) (hx : a.eval x = .pointer none) : (execOp a.eval o).run Try.prog w = .ok (.value (.bool false)) w := by
  unfold execOp
  simp only [ho, hx]
  simp [go_sem]
theorem execPneqs {x : Operand} {b k : Nat} (ho : o.op = .binOp .neq 24 x (.const (.pointer none)) 24) (hx : a.eval x = .pointer (some ⟨b, k, none⟩)) : (execOp a.eval o).run Try.prog w = .ok (.value (.bool true)) w := by
  unfold execOp
  simp only [ho, hx]
  simp [go_sem]
theorem execMkSs {x y : Operand} {n : Nat} (ho : o.op = .makeSlice 55 x y) (hx : a.eval x = .int .i64 ((n : Nat) : Int)) (hy : a.eval y = .int .i64 ((n : Nat) : Int)) (hn : n ≤ 64) : (execOp a.eval o).run Try.prog w = .ok (.value (.slice (some ⟨w.heap.size, 0, none⟩) n n)) (w.alloc (.cells (shA n fun _ => none) 67)) := by
  have h : (Try.prog.info? 67).map (fun i => (i.zero, i.size, i.bytes)) = some (some (.agg #[.int .i32 0, .int .u32 0, .map none]), 3, 16) := by kernel_rfl
  obtain ⟨i, h1, h2⟩ := Option.map_eq_some_iff.1 h
  simp only [Prod.mk.injEq] at h2
  obtain ⟨h2, h3, h4⟩ := h2
  have h := run_make (P := Try.prog) w 55 67 i _ Try.underlying55 h1 h2 .i64 .i64 ((n : Nat) : Int) ((n : Nat) : Int) (by omega) (by omega) (by rw [h4]; omega) (by omega)
  rw [h3, Int.toNat_natCast, show (Value.agg #[.int .i32 0, .int .u32 0, .map none]).cells = #[.int .i32 0, .int .u32 0, .map none] from rfl, made_sh] at h
  unfold execOp
  simp only [ho, hx, hy, Sem.run_bind, h, Result.andThen_ok, Sem.run_pure]
theorem execBxF {x : Operand} {v : Value} {ao : Option Addr} {n c : Nat} (ho : o.op = .box 57 x) (hx : a.eval x = .agg #[v]) (hv : v = .slice ao n c) : (execOp a.eval o).run Try.prog w = .ok (.value (.pointer (some ⟨w.heap.size, 0, none⟩))) (w.alloc (.cells #[v] 57)) := by
  subst hv
  unfold execOp
  simp only [ho, hx]
  simp [go_sem]
theorem execBldF {x : Operand} {v : Value} (ho : o.op = .build 57 #[(0, x)]) (hx : a.eval x = v) (hv : ∃ ao n c, v = .slice ao n c) : (execOp a.eval o).run Try.prog w = .ok (.value (.agg #[v])) w := by
  obtain ⟨ao, n, c, rfl⟩ := hv
  unfold execOp
  simp only [ho, List.map_toArray, List.map_cons, List.map_nil, hx]
  simp [go_sem]
theorem execMkMp (ho : o.op = .makeMap 58 none) : (execOp a.eval o).run Try.prog w = .ok (.value (.map (some w.heap.size))) (w.alloc (.map #[] 0)) := by
  unfold execOp
  simp only [ho]
  simp [go_sem, Instr.makeMap]
theorem execStMp {x y : Operand} {b k : Nat} {v : Value} {c : Array Value} {t : TypeId} {g : Nat} (ho : o.op = .store 58 x y) (hx : a.eval x = .pointer (some ⟨b, k, none⟩)) (hy : a.eval y = .map (some g)) (hb : w.heap[b]? = some (.cells c t)) (hc : c[k]? = some v) : (execOp a.eval o).run Try.prog w = .ok .skip (w.setCell ⟨b, k, none⟩ (.map (some g))) := by
  have h1 := cell_lk0 hb hc
  have h2 := frozen4 (o := k) hb
  unfold execOp
  simp only [ho, hx, hy]
  simp [go_sem, h1, h2]
end
theorem neT {W : World} {g k : Nat} {c d : Array Value} {t u : TypeId} (hg : W.heap[g]? = some (.cells c t)) (hk : W.heap[k]? = some (.cells d u)) (h : t ≠ u) : g ≠ k := by
  rintro rfl
  rw [hg] at hk
  cases hk
  exact h rfl
/-- A filter under way: the first i shards have their maps. -/
structure NwS (W : World) (B sb fb n i : Nat) (mb : Nat → Nat) : Prop where
  f : W.heap[fb]? = some (.cells #[.slice (some ⟨sb, 0, none⟩) n n] 57)
  s : W.heap[sb]? = some (.cells (shA n fun j => if j < i then some (mb j) else none) 67)
  m : ∀ j, j < i → MP W (mb j) []
  inj : ∀ p q, p < i → q < i → mb p = mb q → p = q
  rg : B ≤ fb ∧ B ≤ sb ∧ ∀ j, j < i → B ≤ mb j
theorem NwS.on {W X : World} {B sb fb n i : Nat} {mb : Nat → Nat} (h : NwS W B sb fb n i mb) (hb : Below W.heap.size W X) : NwS X B sb fb n i mb :=
  ⟨on9 h.f hb, on9 h.s hb, fun j hj => (h.m j hj).on hb, h.inj, h.rg⟩
/-- A new map beside it. -/
structure NwM (W : World) (B sb fb n i : Nat) (mb : Nat → Nat) (b : Nat) : Prop where
  h : NwS W B sb fb n i mb
  p : MP W b []
  d : ∀ j, j < i → mb j ≠ b
  g : B ≤ b
theorem NwM.on {W X : World} {B sb fb n i b : Nat} {mb : Nat → Nat} (h : NwM W B sb fb n i mb b) (hb : Below W.heap.size W X) : NwM X B sb fb n i mb b := ⟨h.h.on hb, h.p.on hb, h.d, h.g⟩
theorem NwS.map {W : World} {B sb fb n i : Nat} {mb : Nat → Nat} (h : NwS W B sb fb n i mb) (hB : B ≤ W.heap.size) : NwM (W.alloc (.map #[] 0)) B sb fb n i mb W.heap.size :=
  ⟨h.on (belNew W _), mp_new W, fun j hj e => by have := (h.m j hj).lt; omega, hB⟩
def upB (mb : Nat → Nat) (i b : Nat) : Nat → Nat := fun j => if j = i then b else mb j
theorem shA_set (n i b : Nat) (mb : Nat → Nat) (hi : i < n) : (shA n fun j => if j < i then some (mb j) else none).setIfInBounds (i * 3 + 2) (.map (some b)) = shA n fun j => if j < i + 1 then some (upB mb i b j) else none := by
  apply Array.ext_getElem?
  intro k
  by_cases h : k < n * 3
  · obtain ⟨j, r, hr, rfl⟩ : ∃ j r, r < 3 ∧ k = j * 3 + r := ⟨k / 3, k % 3, by omega, by omega⟩
    obtain ⟨a1, a2, a3⟩ := shA_at (n := n) (i := j) (fun j => if j < i then some (mb j) else none) (by omega)
    obtain ⟨b1, b2, b3⟩ := shA_at (n := n) (i := j) (fun j => if j < i + 1 then some (upB mb i b j) else none) (by omega)
    by_cases e : i * 3 + 2 = j * 3 + r
    · obtain ⟨rfl, rfl⟩ : r = 2 ∧ j = i := ⟨by omega, by omega⟩
      rw [Array.getElem?_setIfInBounds_self_of_lt (by rw [shA_size]; omega), b3, if_pos (by omega)]
      unfold upB
      rw [if_pos rfl]
    · rw [Array.getElem?_setIfInBounds_ne e]
      match r, hr with
      | 0, _ => exact a1.trans b1.symm
      | 1, _ => exact a2.trans b2.symm
      | 2, _ =>
        rw [a3, b3]
        have hj : j ≠ i := by omega
        unfold upB
        rw [if_neg hj]
        by_cases q : j < i
        · rw [if_pos q, if_pos (by omega)]
        · rw [if_neg q, if_neg (by omega)]
  · rw [Array.getElem?_eq_none (by simp [shA_size]; omega), Array.getElem?_eq_none (by rw [shA_size]; omega)]
theorem NwM.put {W : World} {B sb fb n i b : Nat} {mb : Nat → Nat} (h : NwM W B sb fb n i mb b) (hi : i < n) : NwS (W.setCell ⟨sb, i * 3 + 2, none⟩ (.map (some b))) B sb fb n (i + 1) (upB mb i b) := by
  have hne : fb ≠ sb := neT h.h.f h.h.s (by decide)
  refine ⟨?_, ?_, fun j hj => ?_, fun p q hp hq e => ?_, h.h.rg.1, h.h.rg.2.1, fun j hj => ?_⟩
  · rw [heap4o _ h.h.s hne]; exact h.h.f
  · rw [heap4 _ h.h.s, shA_set n i b mb hi]
  · by_cases q : j = i
    · subst q
      unfold upB
      rw [if_pos rfl]
      exact h.p.keep (heap4o _ h.h.s (mp_ne h.p h.h.s))
    · unfold upB
      rw [if_neg q]
      exact (h.h.m j (by omega)).keep (heap4o _ h.h.s (mp_ne (h.h.m j (by omega)) h.h.s))
  · unfold upB at e
    by_cases p1 : p = i
    · by_cases q1 : q = i
      · rw [p1, q1]
      · rw [if_pos p1, if_neg q1] at e
        exact absurd e.symm (h.d q (by omega))
    · by_cases q1 : q = i
      · rw [if_neg p1, if_pos q1] at e
        exact absurd e (h.d p (by omega))
      · rw [if_neg p1, if_neg q1] at e
        exact h.h.inj p q (by omega) (by omega) e
  · unfold upB
    by_cases q : j = i
    · rw [if_pos q]; exact h.g
    · rw [if_neg q]; exact h.h.rg.2.2 j (by omega)
theorem NwS.done {W : World} {B sb fb n : Nat} {mb : Nat → Nat} (h : NwS W B sb fb n n mb) (h1 : 1 ≤ n) (h2 : n ≤ 64) : Fl W B W.heap.size fb sb mb n (fun _ => []) := by
  refine ⟨h.f, ?_, h.m, h.inj, ⟨h.rg.1, (Array.getElem?_eq_some_iff.1 h.f).1, h.rg.2.1, (Array.getElem?_eq_some_iff.1 h.s).1, fun i hi => ⟨h.rg.2.2 i hi, (h.m i hi).lt⟩⟩, h1, h2⟩
  have e : shA n (fun j => if j < n then some (mb j) else none) = shA n fun i => some (mb i) := by
    unfold shA
    rw [shC_cg (n := n) (fun i hi => if_pos hi)]
  rw [← e]
  exact h.s
/-- A filter that was offered the first k of o; nil was offered nothing. -/
def Flr (W : World) (lo hi : Nat) (v : Value) (o : Nat → Off) (k : Nat) : Prop :=
  (v = .pointer none ∧ k = 0) ∨ ∃ fb sb mb n S, v = .pointer (some ⟨fb, 0, none⟩) ∧ Fl W lo hi fb sb mb n S ∧ FI n S o k
theorem Flr.on {W X : World} {lo hi : Nat} {v : Value} {o : Nat → Off} {k : Nat} (h : Flr W lo hi v o k) (hb : Below W.heap.size W X) : Flr X lo hi v o k := by
  rcases h with h | ⟨fb, sb, mb, n, S, h1, h2, h3⟩
  · exact Or.inl h
  · exact Or.inr ⟨fb, sb, mb, n, S, h1, h2.on hb, h3⟩
theorem Flr.cg {W : World} {lo hi : Nat} {v : Value} {o p : Nat → Off} {k : Nat} (h : Flr W lo hi v o k) (e : ∀ j, j < k → o j = p j) : Flr W lo hi v p k := by
  rcases h with h | ⟨fb, sb, mb, n, S, h1, h2, h3⟩
  · exact Or.inl h
  · exact Or.inr ⟨fb, sb, mb, n, S, h1, h2, h3.cg e⟩
theorem Flr.keep {W X : World} {lo hi : Nat} {v : Value} {o : Nat → Off} {k : Nat} (h : Flr W lo hi v o k) (e : ∀ b, lo ≤ b → b < hi → X.heap[b]? = W.heap[b]?) : Flr X lo hi v o k := by
  rcases h with h | ⟨fb, sb, mb, n, S, h1, h2, h3⟩
  · exact Or.inl h
  · exact Or.inr ⟨fb, sb, mb, n, S, h1, h2.keep e, h3⟩
theorem Flr.offT {W X : World} {lo hi g : Nat} {v : Value} {o : Nat → Off} {k : Nat} {c : Array Value} {t : TypeId} (h : Flr W lo hi v o k) (hg : W.heap[g]? = some (.cells c t)) (h1 : t ≠ 57) (h2 : t ≠ 67) (gr : W.grownBy X (some g)) : Flr X lo hi v o k := by
  rcases h with h | ⟨fb, sb, mb, n, S, q1, q2, q3⟩
  · exact Or.inl h
  · exact Or.inr ⟨fb, sb, mb, n, S, q1, q2.offT hg h1 h2 gr, q3⟩
set_option maxRecDepth 100000 in
set_option maxHeartbeats 4000000 in
/-- The program's New. -/
theorem pnew17t (n : Nat) (o : Nat → Off) (V : World) (h1 : 1 ≤ n) (h2 : n ≤ 64) :
    Calls Try.prog 9 #[.int .i64 ((n : Nat) : Int)] V fun e w' => (∃ fb, e = .returned (.tuple #[.pointer (some ⟨fb, 0, none⟩), .int .i64 ((0 : Nat) : Int)]) ∧ Flr w' V.heap.size w'.heap.size (.pointer (some ⟨fb, 0, none⟩)) o 0) ∧ Below V.heap.size V w' := by
  go_enter Try.func9, Try.ntmps9
  refine wo_ 31 [(0, .int .i64 ((n : Nat) : Int))] ?_
  rintro a A ⟨t0, -⟩
  have BW : Below V.heap.size V V := Below.refl _ _
  have BB : Below V.heap.size V V := Below.refl _ _
  refine wp_seq ?_
  refine wi_ A (h1_ t0) (rf_ [] (h1_ t0) ?_)
  rintro a A - ⟨t0, -⟩
  refine wp_seq ?_
  refine wp_seq ?_
  refine wi_ A (h1_ t0) (rc_ 1 (pfitt ((n : Nat) : Int) V ⟨by omega, by omega⟩) (cs_ (rv_ 2 (.bool false) (fun a ee => execNot8 (b := true) rfl (ee _)) (rf_ [(8, .bool false)] (h1_ t0) ?_))))
  rintro a A ⟨t8, -⟩ ⟨t0, -⟩
  refine wp_cond_false t8 ?_
  refine wp_skip ?_
  clear t8
  refine wp_seq ?_
  obtain ⟨sb, egsb⟩ : ∃ z_ : Nat, V.heap.size = z_ := ⟨_, rfl⟩
  refine wi_ A (h1_ t0) (rs_ 1 (fun a ee => ?_))
  refine stepV rfl rfl (execMkSs rfl (ee _) (ee _) (by omega)) ⟨.slice (some ⟨sb, 0, none⟩) n n, ⟨_, rfl, by subst egsb; rfl⟩, fun X3_1 hX => ?_⟩
  have bQ : Below V.heap.size V X3_1 := by subst hX egsb; exact (belNew V _)
  have Fs : (X3_1.heap[sb]? = some (.cells (shA n fun _ => none) 67)) := by subst hX egsb; exact heapNew V _
  have Fsg : (V.heap.size ≤ sb) := by subst hX egsb; exact (BB).size
  replace BB := BB.trans (bQ.mono BB.size)
  clear bQ hX egsb ee a
  obtain ⟨fb, egfb⟩ : ∃ z_ : Nat, X3_1.heap.size = z_ := ⟨_, rfl⟩
  refine rv_ 2 (.agg #[.slice (some ⟨sb, 0, none⟩) n n]) (fun a ee => execBldF rfl (ee _) ⟨_, _, _, rfl⟩) (rs_ 3 (fun a ee => ?_))
  refine stepV rfl rfl (execBxF rfl (ee _) rfl) ⟨.pointer (some ⟨fb, 0, none⟩), ⟨_, rfl, by subst egfb; rfl⟩, fun X3 hX => ?_⟩
  obtain ⟨BB, FN⟩ : Below V.heap.size V X3 ∧ (NwS X3 V.heap.size sb fb n 0 (fun _ => 0)) := by subst hX egfb; exact ⟨(BB).trans ((belNew X3_1 _).mono (BB).size), ⟨heapNew X3_1 _, by simpa using on9 Fs (belNew X3_1 _), fun j hj => absurd hj (Nat.not_lt_zero j), fun p q hp => absurd hp (Nat.not_lt_zero p), (BB).size, Fsg, fun j hj => absurd hj (Nat.not_lt_zero j)⟩⟩
  clear Fs hX egfb ee a
  refine rg_ [(4, .pointer (some ⟨fb, 0, none⟩))] ?_
  rintro a A ⟨t4, -⟩
  refine wp_seq ?_
  refine wp_seq ?_
  refine wi_ A (h1_ t4) (rv_ 1 (.pointer (some ⟨fb, 0, none⟩)) (fun a ee => execNilC rfl (ee _)) (rv_ 2 (.pointer (some ⟨fb, 0, none⟩)) (fun a ee => execFldF0 rfl (ee _)) (rv_ 3 (.slice (some ⟨sb, 0, none⟩) n n) (fun a ee => execLdSs rfl (ee _) (cell_lk0 FN.f rfl)) (rv_ 4 (.int .i64 ((n : Nat) : Int)) (fun a ee => execLenSs (len := n) rfl (ee _) ⟨_, _, rfl⟩) (rf_ [(17, .int .i64 ((n : Nat) : Int)), (18, .int .i64 ((0 : Nat) : Int))] (h1_ t4) ?_)))))
  rintro a A ⟨t17, t18, -⟩ ⟨t4, -⟩
  refine wp_block ?_
  refine wp_loop (fun a W => ∃ (i : Nat) (mb : (Nat → Nat)), i ≤ n ∧ (a.tmps.size = 31 ∧ a.defers = []) ∧ a.eval (.tmp 4) = .pointer (some ⟨fb, 0, none⟩) ∧ a.eval (.tmp 17) = .int .i64 ((n : Nat) : Int) ∧ a.eval (.tmp 18) = .int .i64 ((i : Nat) : Int) ∧ Below V.heap.size V W ∧ (NwS W V.heap.size sb fb n i mb)) (fun a _ => n - (intOf (a.eval (.tmp 18))).toNat) ⟨0, (fun _ => 0), Nat.zero_le _, A, t4, t17, t18, BB, FN⟩ ?_
  clear A t4 t17 t18 BB FN a
  rintro a XL5 ⟨i, mb, hi, A, t4, t17, t18, BB, FN⟩
  have esi := t18
  refine wp_seq ?_
  refine wi_ A (h3_ t4 t17 t18) (rv_ 0 (.bool (decide (i < n))) (fun a ee => execLtW (p := i) (q := n) rfl (ee _) (ee _)) (rf_ [(19, .bool (decide (i < n)))] (h3_ t4 t17 t18) ?_))
  rintro a A ⟨t19, -⟩ ⟨t4, t17, t18, -⟩
  refine wp_seq ?_
  by_cases lti : i < n
  · rw [decide_eq_true lti] at t19
    refine wp_cond_true t19 ?_
    refine wp_skip ?_
    clear t19
    refine wp_seq ?_
    refine wp_block ?_
    refine wp_seq ?_
    refine wi_ A (h3_ t4 t17 t18) (rf_ [(5, .int .i64 ((i : Nat) : Int))] (h3_ t4 t17 t18) ?_)
    rintro a A ⟨t5, -⟩ ⟨t4, t17, t18, -⟩
    obtain ⟨mi, egmi⟩ : ∃ z_ : Nat, XL5.heap.size = z_ := ⟨_, rfl⟩
    refine wi_ A (h4_ t4 t17 t18 t5) (rv_ 1 (.pointer (some ⟨fb, 0, none⟩)) (fun a ee => execNilC rfl (ee _)) (rv_ 2 (.pointer (some ⟨fb, 0, none⟩)) (fun a ee => execFldF0 rfl (ee _)) (rv_ 3 (.slice (some ⟨sb, 0, none⟩) n n) (fun a ee => execLdSs rfl (ee _) (cell_lk0 FN.f rfl)) (rs_ 5 (fun a ee => ?_)))))
    refine stepV rfl rfl (execMkMp rfl) ⟨.map (some mi), ⟨_, rfl, by subst egmi; rfl⟩, fun X7_1 hX => ?_⟩
    obtain ⟨BB, FM⟩ : Below V.heap.size V X7_1 ∧ (NwM X7_1 V.heap.size sb fb n i mb mi) := by subst hX egmi; exact ⟨(BB).trans ((belNew XL5 _).mono (BB).size), FN.map (BB).size⟩
    clear FN hX egmi ee a
    refine rv_ 6 (.pointer (some ⟨sb, i * 3, none⟩)) (fun a ee => execIdxSs (k := i) rfl (ee _) (ee _) lti) (rv_ 7 (.pointer (some ⟨sb, i * 3 + 2, none⟩)) (fun a ee => execFldS1 rfl (ee _)) (rs_ 8 (fun a ee => ?_)))
    refine stepS rfl rfl (execStMp rfl (ee _) (ee _) FM.h.s (shA_at _ lti).2.2) ⟨_, ⟨_, rfl, rfl⟩, fun X7 hX => ?_⟩
    obtain ⟨BB, FN2⟩ : Below V.heap.size V X7 ∧ (NwS X7 V.heap.size sb fb n (i + 1) (upB mb i mi)) := by subst hX; exact ⟨(BB).setCell (p := ⟨sb, i * 3 + 2, none⟩) FM.h.rg.2.1 _, FM.put lti⟩
    clear FM hX ee a
    refine rf_ [] (h3_ t4 t17 t18) ?_
    rintro a A - ⟨t4, t17, t18, -⟩
    refine wi_ A (h3_ t4 t17 t18) (rv_ 0 (.int .i64 ((i + 1 : Nat) : Int)) (fun a ee => execAd8 (p := i) (q := 1) rfl (ee _) rfl (by omega)) (rf_ [(18, .int .i64 ((i + 1 : Nat) : Int))] (h2_ t4 t17) ?_))
    rintro a A ⟨t18, -⟩ ⟨t4, t17, -⟩
    exact ⟨⟨i + 1, upB mb i mi, lti, A, t4, t17, t18, BB, FN2⟩, by show n - (intOf (a.eval (.tmp 18))).toNat < n - (intOf (Act.eval _ (.tmp 18))).toNat; rw [t18, esi]; show n - (i + 1) < n - i; omega⟩
  · rw [decide_eq_false lti] at t19
    refine wp_cond_false t19 ?_
    refine wp_exit ?_
    first | with_reducible refine exit_in ?_ | with_reducible refine exit_then (exit_in ?_) | with_reducible refine exit_then (exit_then (exit_in ?_)) | refine exit_in ?_ | refine exit_then (exit_in ?_) | refine exit_then (exit_then (exit_in ?_))
    clear t19 esi
    obtain rfl : i = n := by omega
    refine wp_seq ?_
    refine wi_ A (h3_ t4 t17 t18) (rg_ [(2, .pointer (some ⟨fb, 0, none⟩)), (3, .int .i64 ((0 : Nat) : Int))] ?_)
    rintro a A ⟨t2, t3, -⟩
    refine wp_ret ?_
    refine bodyPost_ret (results_tmp2 rfl _ _ _) A.2 ⟨⟨fb, ?_, Or.inr ⟨fb, sb, mb, _, _, rfl, FN.done (by omega) (by omega), FI.zero _ o⟩⟩, BB⟩
    show Ending.returned (.tuple #[a.eval (.tmp 2), a.eval (.tmp 3)]) = _
    rw [t2, t3]
set_option maxRecDepth 100000 in
set_option maxHeartbeats 4000000 in
/-- The program's New. -/
theorem pnew17f (s : Int) (V : World) (hn : ¬ fitS s) :
    Calls Try.prog 9 #[.int .i64 s] V fun e w' => e = .returned (.tuple #[.pointer none, .int .i64 ((2 : Nat) : Int)]) ∧ Below V.heap.size V w' := by
  go_enter Try.func9, Try.ntmps9
  refine wo_ 31 [(0, .int .i64 s)] ?_
  rintro a A ⟨t0, -⟩
  have BW : Below V.heap.size V V := Below.refl _ _
  have BB : Below V.heap.size V V := Below.refl _ _
  refine wp_seq ?_
  refine wi_ A (h1_ t0) (rf_ [] (h1_ t0) ?_)
  rintro a A - ⟨t0, -⟩
  refine wp_seq ?_
  refine wp_seq ?_
  refine wi_ A (h1_ t0) (rc_ 1 (pfitf s V hn) (cs_ (rv_ 2 (.bool true) (fun a ee => execNot8 (b := false) rfl (ee _)) (rf_ [(8, .bool true)] (h1_ t0) ?_))))
  rintro a A ⟨t8, -⟩ ⟨t0, -⟩
  refine wp_cond_true t8 ?_
  clear t8
  refine wp_seq ?_
  refine wi_ A (h1_ t0) (rg_ [(2, .pointer none), (3, .int .i64 ((2 : Nat) : Int))] ?_)
  rintro a A ⟨t2, t3, -⟩
  refine wp_ret ?_
  repeat (first | with_reducible refine ret_in ?_ | with_reducible refine ret_then ?_)
  refine bodyPost_ret (results_tmp2 rfl _ _ _) A.2 ⟨?_, BB⟩
  show Ending.returned (.tuple #[a.eval (.tmp 2), a.eval (.tmp 3)]) = _
  rw [t2, t3]
end Go.Proofs.Ytjoffdaknacbpaa.Sha
