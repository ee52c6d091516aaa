import Derived.Test.YtcgkelgncehekaaE8k
namespace Go.Proofs.Ytcgkelgncehekaa.Loo
open Go.RowKit Gf8 Aes By8 Cel Cf Win Drw Prm
/- The laws' about; rows of operations that grow. Written by tools/mkE8l.py. -/

def abt (n lo hi : Int) : Int := lo + n % (hi - lo + 1)
theorem abt_in {n lo hi : Int} (h : lo ≤ hi) : lo ≤ abt n lo hi ∧ abt n lo hi ≤ hi := by
  have h1 := Int.emod_nonneg n (show hi - lo + 1 ≠ 0 by omega)
  have h2 := Int.emod_lt_of_pos n (show 0 < hi - lo + 1 by omega)
  unfold abt
  omega
section
variable {o : Oper} {a : Act} {w : World} {x y : Operand} {p q : Int}
theorem wrapZ {z : Int} (h : I64 z) : IntKind.i64.wrap z = z := by
  obtain ⟨h1, h2⟩ := h
  simp [IntKind.wrap, IntKind.bits, IntKind.signed]
  omega
theorem exAddZ (ho : o.op = .binOp .add 3 x y 3) (hx : a.eval x = .int .i64 p) (hy : a.eval y = .int .i64 q) (h : I64 (p + q)) : (execOp a.eval o).run Try.prog w = .ok (.value (.int .i64 (p + q))) w := by
  have e := wrapZ h
  unfold execOp
  simp only [ho, hx, hy]
  simp [go_sem, e]
theorem exSubZ (ho : o.op = .binOp .sub 3 x y 3) (hx : a.eval x = .int .i64 p) (hy : a.eval y = .int .i64 q) (h : I64 (p - q)) : (execOp a.eval o).run Try.prog w = .ok (.value (.int .i64 (p - q))) w := by
  have e := wrapZ h
  unfold execOp
  simp only [ho, hx, hy]
  simp [go_sem, e]
theorem exRemZ (ho : o.op = .binOp .rem 3 x y 3) (hx : a.eval x = .int .i64 p) (hy : a.eval y = .int .i64 q) (h : q ≠ 0) : (execOp a.eval o).run Try.prog w = .ok (.value (.int .i64 (p.tmod q))) w := by
  unfold execOp
  simp only [ho, hx, hy]
  simp [go_sem, h]
end
theorem tmod_in {n m : Int} (h : 0 < m) : -m < n.tmod m ∧ n.tmod m < m ∧ n % m = if n.tmod m < 0 then n.tmod m + m else n.tmod m := by
  have h1 := Int.emod_nonneg n (show m ≠ 0 by omega)
  have h2 := Int.emod_lt_of_pos n h
  have h3 := Int.tmod_lt_of_pos n h
  have h4 : -m < n.tmod m := by
    have := Int.tmod_lt_of_pos (-n) h
    rw [Int.neg_tmod] at this
    omega
  refine ⟨h4, h3, ?_⟩
  have e1 := Int.mul_ediv_add_emod n m
  have e2 := Int.mul_tdiv_add_tmod n m
  have e3 : n % m = (n.tmod m) % m := by
    rw [← e2, Int.mul_add_emod_self_left]
    congr 1
    rw [e2]
  rw [e3]
  split
  · rw [← Int.add_emod_right, Int.emod_eq_of_lt (by omega) (by omega)]
  · exact Int.emod_eq_of_lt (by omega) h3
def opL (n : Nat) (q : Nat → Op3) : List Value := (List.range n).flatMap fun j => [.int .i64 (q j).k, .int .i64 (q j).a, .int .i64 (q j).b]
theorem opL_len (q : Nat → Op3) : ∀ n, (opL n q).length = n * 3
  | 0 => rfl
  | n + 1 => by
    have := opL_len q n
    unfold opL at *
    rw [List.range_succ, List.flatMap_append, List.length_append, this]
    show n * 3 + 3 = _
    omega
theorem opL_add (q : Nat → Op3) (n m : Nat) : opL n q ++ opL m (fun j => q (n + j)) = opL (n + m) q := by
  unfold opL
  rw [List.range_add, List.flatMap_append, List.flatMap_map]
theorem opL_cg {n : Nat} {q r : Nat → Op3} (h : ∀ j, j < n → q j = r j) : opL n q = opL n r := by
  unfold opL
  rw [List.flatMap_def, List.flatMap_def]
  congr 1
  exact List.map_congr_left fun j hj => by rw [h j (List.mem_range.1 hj)]
theorem opL_one {n : Nat} {q : Nat → Op3} : ∀ u ∈ opL n q, u.oneCell' = true := by
  intro u hu
  obtain ⟨j, _, h⟩ := List.mem_flatMap.1 hu
  simp only [List.mem_cons, List.not_mem_nil, or_false] at h
  rcases h with rfl | rfl | rfl <;> rfl
set_option maxRecDepth 100000 in
theorem infoOp : ∃ i, Try.prog.info? 35 = some i ∧ i.zero = some (.agg (oC 0 0 0)) ∧ i.size = 3 ∧ i.bytes = 24 := by
  have h : (Try.prog.info? 35).map (fun i => (i.zero, i.size, i.bytes)) = some (some (.agg (oC 0 0 0)), 3, 24) := by kernel_rfl
  cases hq : Try.prog.info? 35 with
  | none => rw [hq] at h; cases h
  | some i =>
    rw [hq] at h
    simp only [Option.map_some, Option.some.injEq, Prod.mk.injEq] at h
    exact ⟨i, rfl, h.1, h.2.1, h.2.2⟩
/-- append of some operations. -/
theorem stepAppOp {ops : Array Oper} {Q : Exit → Act → World → Prop} {K : Act → World → Prop} {j : Nat} {o : Oper} {a : Act} {W : World} {s x : Operand} {B n m g : Nat} {v : Value} {q : Nat → Op3} (hos : ops[j]? = some o) (hgd : Region.wanted o (yielded ops a.tmps) = true)
    (ho : o.op = .call { callee := .builtin .append, args := #[s, x], argTypes := #[36, 36] }) (hs : a.eval s = v) (hx : a.eval x = .slice (some ⟨g, 0, none⟩) m m) (hown : W.ownsRow B 35 3 v n (opL n q)) (hg : W.heap[g]? = some (.cells (oR m fun j => q (n + j)) 35)) (hn : n + m ≤ 1000000) (hB : B ≤ W.heap.size)
    (hK : ∀ v' W', W'.ownsRow B 35 3 v' (n + m) (opL (n + m) q) → W.grownBy W' v.ownBlock → K (a.put o.dst v') W') : wpOp Try.prog ops Q j K a W := by
  obtain ⟨i, i1, i2, i3, i4⟩ := infoOp
  obtain ⟨v', W', run, q1, q2⟩ := execAppO (W := W) (m := m) (c := m) (news := opL m (fun j => q (n + j))) ho Try.underlying36 i1 i2 i3 i4 (by simp [Value.cells, oC]) (by decide) hs hown hx (opL_len _ m) (fun j u hu => by
    rw [Go.WideShapes.add_plain, cell_of_row _ _ _ _ _ _ hg, Nat.zero_add]
    exact (List.getElem?_toArray ..).trans hu) opL_one (by unfold maxLen; omega) (by omega) hB
  rw [opL_add] at q1
  exact stepV hos hgd run (hK v' W' q1 q2)
theorem own_ops {W : World} {B n : Nat} {v : Value} {q : Nat → Op3} (h : W.ownsRow B 35 3 v n (opL n q)) (hf : ∀ j, j < n → I64 (q j).k ∧ I64 (q j).a ∧ I64 (q j).b) : SliceO W v n q := by
  rcases h.2 with ⟨rfl, rfl⟩ | ⟨g, cap, cur, rfl, _, hg, h1, h2, h3, h4⟩
  · exact ⟨⟨_, _, rfl, fun h => by omega⟩, hf⟩
  · have hc : ∀ j i, j < n → i < 3 → cur[j * 3 + i]? = [Value.int .i64 (q j).k, .int .i64 (q j).a, .int .i64 (q j).b][i]? := fun j i hj hi => by
      have := flat3 (q := q) n j i hj hi
      have h5 : (opL n q)[j * 3 + i]? = cur[j * 3 + i]? := by rw [← h4, List.getElem?_take, if_pos (by omega), Array.getElem?_toList]
      rw [← h5]
      exact this
    refine ⟨⟨_, _, rfl, fun _ => ⟨g, 0, rfl, (Array.getElem?_eq_some_iff.1 hg).1, fun j hj => ⟨?_, ?_, ?_⟩⟩⟩, hf⟩
    · rw [cell_of_row _ _ _ _ _ _ hg, Nat.zero_add]
      exact hc j 0 hj (by omega)
    · rw [cell_of_row _ _ _ _ _ _ hg, Nat.zero_add]
      exact hc j 1 hj (by omega)
    · rw [cell_of_row _ _ _ _ _ _ hg, Nat.zero_add]
      exact hc j 2 hj (by omega)
theorem SliceO.cg {W : World} {v : Value} {n : Nat} {q r : Nat → Op3} (h : SliceO W v n q) (e : ∀ j, j < n → q j = r j) : SliceO W v n r := by
  obtain ⟨⟨a, cap, e1, h3⟩, hp⟩ := h
  refine ⟨⟨a, cap, e1, fun h0 => ?_⟩, fun j hj => by rw [← e j hj]; exact hp j hj⟩
  obtain ⟨b, off, e2, e3, e4⟩ := h3 h0
  exact ⟨b, off, e2, e3, fun j hj => by rw [← e j hj]; exact e4 j hj⟩
set_option maxRecDepth 100000 in
set_option maxHeartbeats 4000000 in
/-- The laws' about. -/
theorem about19 (n lo hi : Int) (V : World) (h1 : -2000 ≤ lo) (h2 : lo ≤ hi) (h3 : hi ≤ 2000) :
    Calls Try.prog 26 #[.int .i64 n, .int .i64 lo, .int .i64 hi] V fun e w' => e = .returned (.int .i64 (abt n lo hi)) ∧ Below V.heap.size V w' := by
  obtain ⟨m1, m2, he⟩ := tmod_in (n := n) (m := hi - lo + 1) (by omega)
  by_cases hn : Int.tmod n (hi - lo + 1) < 0
  · rw [if_pos hn] at he
    go_enter Try.func26, Try.ntmps26
    refine wo_ 24 [(0, .int .i64 n), (1, .int .i64 lo), (2, .int .i64 hi)] ?_
    rintro a A ⟨t0, t1, t2, -⟩
    have BW : Below V.heap.size V V := Below.refl _ _
    have BB : Below V.heap.size V V := Below.refl _ _
    refine wp_seq ?_
    refine wi_ A (h3_ t0 t1 t2) (rf_ [] (h3_ t0 t1 t2) ?_)
    rintro a A - ⟨t0, t1, t2, -⟩
    refine wp_seq ?_
    refine wi_ A (h3_ t0 t1 t2) (rv_ 3 (.int .i64 (hi - lo)) (fun a ee => exSubZ (p := hi) (q := lo) rfl (ee _) (ee _) ⟨by omega, by omega⟩) (rv_ 4 (.int .i64 ((hi - lo) + 1)) (fun a ee => exAddZ (p := (hi - lo)) (q := 1) rfl (ee _) rfl ⟨by omega, by omega⟩) (rv_ 5 (.int .i64 (Int.tmod n ((hi - lo) + 1))) (fun a ee => exRemZ (p := n) (q := ((hi - lo) + 1)) rfl (ee _) (ee _) (by omega)) (rf_ [(0, .int .i64 (Int.tmod n ((hi - lo) + 1)))] (h2_ t1 t2) ?_))))
    rintro a A ⟨t0, -⟩ ⟨t1, t2, -⟩
    refine wp_seq ?_
    refine wp_seq ?_
    refine wi_ A (h3_ t0 t1 t2) (rv_ 1 (.bool true) (fun a ee => execDec (exIlss3 (p := (Int.tmod n ((hi - lo) + 1))) (q := 0) rfl (ee _) rfl) (decide_eq_true hn)) (rf_ [(14, .bool true)] (h3_ t0 t1 t2) ?_))
    rintro a A ⟨t14, -⟩ ⟨t0, t1, t2, -⟩
    refine wp_cond_true t14 ?_
    clear t14
    refine wi_ A (h3_ t0 t1 t2) (rv_ 3 (.int .i64 (hi - lo)) (fun a ee => exSubZ (p := hi) (q := lo) rfl (ee _) (ee _) ⟨by omega, by omega⟩) (rv_ 4 (.int .i64 ((hi - lo) + 1)) (fun a ee => exAddZ (p := (hi - lo)) (q := 1) rfl (ee _) rfl ⟨by omega, by omega⟩) (rv_ 5 (.int .i64 ((Int.tmod n ((hi - lo) + 1)) + ((hi - lo) + 1))) (fun a ee => exAddZ (p := (Int.tmod n ((hi - lo) + 1))) (q := ((hi - lo) + 1)) rfl (ee _) (ee _) ⟨by omega, by omega⟩) (rf_ [(0, .int .i64 ((Int.tmod n ((hi - lo) + 1)) + ((hi - lo) + 1)))] (h1_ t1) ?_))))
    rintro a A ⟨t0, -⟩ ⟨t1, -⟩
    refine wp_seq ?_
    refine wi_ A (h2_ t0 t1) (rv_ 2 (.int .i64 (lo + ((Int.tmod n ((hi - lo) + 1)) + ((hi - lo) + 1)))) (fun a ee => exAddZ (p := lo) (q := ((Int.tmod n ((hi - lo) + 1)) + ((hi - lo) + 1))) rfl (ee _) (ee _) ⟨by omega, by omega⟩) (rg_ [(6, .int .i64 (lo + ((Int.tmod n ((hi - lo) + 1)) + ((hi - lo) + 1))))] ?_))
    rintro a A ⟨t6, -⟩
    refine wp_ret ?_
    refine bodyPost_ret (results_tmp rfl _ _ _) A.2 ⟨?_, BB⟩
    show Ending.returned (a.eval (.tmp 6)) = _
    rw [t6]
    unfold abt
    rw [he]
  · rw [if_neg hn] at he
    go_enter Try.func26, Try.ntmps26
    refine wo_ 24 [(0, .int .i64 n), (1, .int .i64 lo), (2, .int .i64 hi)] ?_
    rintro a A ⟨t0, t1, t2, -⟩
    have BW : Below V.heap.size V V := Below.refl _ _
    have BB : Below V.heap.size V V := Below.refl _ _
    refine wp_seq ?_
    refine wi_ A (h3_ t0 t1 t2) (rf_ [] (h3_ t0 t1 t2) ?_)
    rintro a A - ⟨t0, t1, t2, -⟩
    refine wp_seq ?_
    refine wi_ A (h3_ t0 t1 t2) (rv_ 3 (.int .i64 (hi - lo)) (fun a ee => exSubZ (p := hi) (q := lo) rfl (ee _) (ee _) ⟨by omega, by omega⟩) (rv_ 4 (.int .i64 ((hi - lo) + 1)) (fun a ee => exAddZ (p := (hi - lo)) (q := 1) rfl (ee _) rfl ⟨by omega, by omega⟩) (rv_ 5 (.int .i64 (Int.tmod n ((hi - lo) + 1))) (fun a ee => exRemZ (p := n) (q := ((hi - lo) + 1)) rfl (ee _) (ee _) (by omega)) (rf_ [(0, .int .i64 (Int.tmod n ((hi - lo) + 1)))] (h2_ t1 t2) ?_))))
    rintro a A ⟨t0, -⟩ ⟨t1, t2, -⟩
    refine wp_seq ?_
    refine wp_seq ?_
    refine wi_ A (h3_ t0 t1 t2) (rv_ 1 (.bool false) (fun a ee => execDec (exIlss3 (p := (Int.tmod n ((hi - lo) + 1))) (q := 0) rfl (ee _) rfl) (decide_eq_false hn)) (rf_ [(14, .bool false)] (h3_ t0 t1 t2) ?_))
    rintro a A ⟨t14, -⟩ ⟨t0, t1, t2, -⟩
    refine wp_cond_false t14 ?_
    refine wp_skip ?_
    clear t14
    refine wp_seq ?_
    refine wi_ A (h3_ t0 t1 t2) (rv_ 2 (.int .i64 (lo + (Int.tmod n ((hi - lo) + 1)))) (fun a ee => exAddZ (p := lo) (q := (Int.tmod n ((hi - lo) + 1))) rfl (ee _) (ee _) ⟨by omega, by omega⟩) (rg_ [(6, .int .i64 (lo + (Int.tmod n ((hi - lo) + 1))))] ?_))
    rintro a A ⟨t6, -⟩
    refine wp_ret ?_
    refine bodyPost_ret (results_tmp rfl _ _ _) A.2 ⟨?_, BB⟩
    show Ending.returned (a.eval (.tmp 6)) = _
    rw [t6]
    unfold abt
    rw [he]
end Go.Proofs.Ytcgkelgncehekaa.Loo
