import Derived.Test.YtmfaapbhehhlpaaB9d
namespace Go.Proofs.Ytmfaapbhehhlpaa.Noi
open Go.RowKit Gf8 Aes By8 Cel Cf Tap Drw Prm
/- Package noise as it landed: fit, weightSums, Table. Written by tools/mkB9u.py. -/

theorem info64 : ∃ i, Try.prog.info? 2 = some i ∧ i.zero = some (.int .i64 0) ∧ i.size = 1 ∧ i.bytes = 8 := ⟨_, rfl, by kernel_rfl, by kernel_rfl, by kernel_rfl⟩
section
variable {o : Oper} {a : Act} {w : World}
theorem execMk64 {x y : Operand} {n : Nat} (ho : o.op = .makeSlice 49 x y) (hx : a.eval x = .int .i64 (n : Int)) (hy : a.eval y = .int .i64 (n : Int)) (hn : n ≤ 17592186044416) : (execOp a.eval o).run Try.prog w = .ok (.value (.slice (some ⟨w.heap.size, 0, none⟩) n n)) (w.alloc (.cells (madeCells #[.int .i64 0] n) 2)) := by
  obtain ⟨i, h1, h2, h3, h4⟩ := info64
  have h := run_make (P := Try.prog) w 49 2 i (.int .i64 0) Try.underlying49 h1 h2 .i64 .i64 (n : Int) (n : Int) (by omega) (by omega) (by rw [h4]; omega) (by omega)
  rw [h3, Int.toNat_natCast, Nat.mul_one] at h
  unfold execOp
  simp only [ho, hx, hy, Sem.run_bind, h, Result.andThen_ok, Sem.run_pure]
  rfl
theorem execLen64 {x : Operand} {v : Value} {len : Nat} (ho : o.op = .call { callee := .builtin .len, args := #[x], argTypes := #[49] }) (hx : a.eval x = v) (hv : ∃ ao c, v = .slice ao len c) : (execOp a.eval o).run Try.prog w = .ok (.value (.int .i64 (len : Int))) w := by
  obtain ⟨ao, c, rfl⟩ := hv
  unfold execOp
  simp only [ho, resolve, invoke, builtin, Sem.run_bind, Sem.run_pure, Result.andThen_ok, List.map_toArray, List.map_cons, List.map_nil, hx]
  simp [go_sem]
theorem execIdx64 {x i : Operand} {g off n cap k : Nat} (ho : o.op = .indexAddr 49 x i) (hx : a.eval x = .slice (some ⟨g, off, none⟩) n cap) (hi : a.eval i = .int .i64 (k : Int)) (hk : k < n) : (execOp a.eval o).run Try.prog w = .ok (.value (.pointer (some ⟨g, off + k, none⟩))) w := by
  have h1 : (k : Int) < n := by omega
  unfold execOp
  simp only [ho, hx, hi]
  simp [go_sem, h1]
theorem execLd64 {x : Operand} {b f : Nat} {v : Int} (ho : o.op = .load 2 x) (hx : a.eval x = .pointer (some ⟨b, f, none⟩)) (hc : w.cell? ⟨b, f, none⟩ = some (.int .i64 v)) : (execOp a.eval o).run Try.prog w = .ok (.value (.int .i64 v)) w := by
  unfold execOp
  simp only [ho, hx]
  simp [go_sem, hc]
theorem execSt64 {x y : Operand} {b k : Nat} {z : Int} {old : Value} (ho : o.op = .store 2 x y) (hx : a.eval x = .pointer (some ⟨b, k, none⟩)) (hy : a.eval y = .int .i64 z) (hc : w.cell? ⟨b, k, none⟩ = some old) (hf : w.frozen? ⟨b, k, none⟩ = false) : (execOp a.eval o).run Try.prog w = .ok .skip (w.setCell ⟨b, k, none⟩ (.int .i64 z)) := by
  unfold execOp
  simp only [ho, hx, hy]
  simp [go_sem, hc, hf]
theorem execQuo64 {x y : Operand} {p q : Nat} (ho : o.op = .binOp .quo 2 x y 2) (hx : a.eval x = .int .i64 (p : Int)) (hy : a.eval y = .int .i64 (q : Int)) (hq : 0 < q) (hp : p < 9223372036854775808) : (execOp a.eval o).run Try.prog w = .ok (.value (.int .i64 ((p / q : Nat) : Int))) w := by
  have hl : p / q ≤ p := Nat.div_le_self _ _
  have ew : ∀ k : Nat, k < 9223372036854775808 → IntKind.i64.wrap (k : Int) = (k : Int) := fun k hk => by simp [IntKind.wrap, IntKind.bits, IntKind.signed]; omega
  have ec : (p : Int) / (q : Int) = ((p / q : Nat) : Int) := by simp
  have e2 := ew (p / q) (by omega)
  unfold execOp
  simp only [ho, hx, hy]
  simp [go_sem]
  rw [if_neg (by omega), ec, e2]
theorem execMul64 {x y : Operand} {p q : Nat} (ho : o.op = .binOp .mul 2 x y 2) (hx : a.eval x = .int .i64 (p : Int)) (hy : a.eval y = .int .i64 (q : Int)) (h : p * q < 9223372036854775808) : (execOp a.eval o).run Try.prog w = .ok (.value (.int .i64 ((p * q : Nat) : Int))) w := by
  have ew : IntKind.i64.wrap ((p : Int) * q) = ((p * q : Nat) : Int) := by
    rw [← Int.natCast_mul]
    simp [IntKind.wrap, IntKind.bits, IntKind.signed]
    omega
  unfold execOp
  simp only [ho, hx, hy]
  simp [go_sem, ew]
theorem execAdd64 {x y : Operand} {p q : Nat} (ho : o.op = .binOp .add 2 x y 2) (hx : a.eval x = .int .i64 (p : Int)) (hy : a.eval y = .int .i64 (q : Int)) (h : p + q < 9223372036854775808) : (execOp a.eval o).run Try.prog w = .ok (.value (.int .i64 ((p + q : Nat) : Int))) w := by
  have ew : IntKind.i64.wrap ((p : Int) + q) = ((p + q : Nat) : Int) := by
    rw [← Int.natCast_add]
    simp [IntKind.wrap, IntKind.bits, IntKind.signed]
    omega
  unfold execOp
  simp only [ho, hx, hy]
  simp [go_sem, ew]
end
theorem own_mk64 (W : World) (n : Nat) (f : Nat → Int) (hn : n ≤ 17592186044416) (hf : ∀ j, j < n → f j = 0) : (W.alloc (.cells (madeCells #[.int .i64 0] n) 2)).ownsRow W.heap.size 2 1 (.slice (some ⟨W.heap.size, 0, none⟩) n n) n (intsL n f) := by
  refine ⟨by rw [intsL_len, Nat.mul_one], Or.inr ⟨W.heap.size, n, _, rfl, Nat.le_refl _, heapNew W _, Nat.le_refl _, by unfold maxLen; omega, by simp [madeCells], ?_⟩⟩
  apply List.ext_getElem?
  intro j
  by_cases h : j < n
  · simp [madeCells, intsL, h, hf j h, Nat.mod_one]
  · simp [madeCells, intsL, h]
theorem own_cell64 {W : World} {B n g cap j t : Nat} {f : Nat → Int} (h : W.ownsRow B t 1 (.slice (some ⟨g, 0, none⟩) n cap) n (intsL n f)) (hj : j < n) : W.cell? ⟨g, 0 + j, none⟩ = some (.int .i64 (f j)) ∧ W.frozen? ⟨g, 0 + j, none⟩ = false := by
  rw [Nat.zero_add]
  rcases h.2 with ⟨e, _⟩ | ⟨g', cap', cur, e, _, hg, h1, h2, h3, h4⟩
  · cases e
  · injection e with e1 _ _
    injection e1 with e1
    injection e1 with e1 _ _
    subst e1
    refine ⟨?_, frozen4 hg⟩
    rw [cell_of_row _ _ _ _ _ _ hg, ← Array.getElem?_toList]
    have h5 : (cur.toList.take (n * 1))[j]? = some (.int .i64 (f j)) := by rw [h4]; exact intsL_get hj
    rw [List.getElem?_take_of_lt (by omega)] at h5
    exact h5
theorem own_set64 {W : World} {B n g cap k t : Nat} {f : Nat → Int} (z : Int) (h : W.ownsRow B t 1 (.slice (some ⟨g, 0, none⟩) n cap) n (intsL n f)) : (W.setCell ⟨g, 0 + k, none⟩ (.int .i64 z)).ownsRow B t 1 (.slice (some ⟨g, 0, none⟩) n cap) n (intsL n (fun j => if j = k then z else f j)) := by
  rw [Nat.zero_add]
  refine ⟨by rw [intsL_len, Nat.mul_one], ?_⟩
  rcases h.2 with ⟨e, _⟩ | ⟨g', cap', cur, e, hB, hg, h1, h2, h3, h4⟩
  · cases e
  · injection e with e1 e2 e3
    injection e1 with e1
    injection e1 with e1 _ _
    subst e1
    subst e3
    refine Or.inr ⟨g, cap, cur.setIfInBounds k (.int .i64 z), rfl, hB, heap4 _ hg, h1, h2, by simpa using h3, ?_⟩
    apply List.ext_getElem?
    intro j
    have h5 : (cur.toList.take (n * 1))[j]? = (intsL n f)[j]? := by rw [h4]
    by_cases hj : j < n
    · rw [List.getElem?_take_of_lt (by omega), intsL_get hj] at h5
      rw [List.getElem?_take_of_lt (by omega), intsL_get hj, Array.getElem?_toList, Array.getElem?_setIfInBounds]
      by_cases hk : k = j
      · subst hk
        rw [if_pos rfl, if_pos rfl, if_pos (by simp at h3; omega)]
      · rw [if_neg hk, if_neg (fun q => hk q.symm), ← Array.getElem?_toList]
        exact h5
    · rw [List.getElem?_eq_none (by simp; omega), List.getElem?_eq_none (by rw [intsL_len]; omega)]
theorem own_fill64 {W : World} {B n g cap i t : Nat} {F : Nat → Int} {z : Int} (h : W.ownsRow B t 1 (.slice (some ⟨g, 0, none⟩) n cap) n (intsL n (fun j => if j < i then F j else 0))) (e : z = F i) : (W.setCell ⟨g, 0 + i, none⟩ (.int .i64 z)).ownsRow B t 1 (.slice (some ⟨g, 0, none⟩) n cap) n (intsL n (fun j => if j < (i + 1) then F j else 0)) := by
  have h2 := own_set64 (k := i) z h
  rw [intsL_congr (g := fun j => if j < (i + 1) then F j else 0) (fun j _ => ?_)] at h2
  · exact h2
  · by_cases q : j = i
    · subst q
      rw [if_pos rfl, if_pos (by omega), e]
    · rw [if_neg q]
      by_cases q2 : j < i
      · rw [if_pos q2, if_pos (by omega)]
      · rw [if_neg q2, if_neg (by omega)]
theorem own_ints64 {W : World} {B n t : Nat} {v : Value} {f : Nat → Int} (h : W.ownsRow B t 1 v n (intsL n f)) (hf : ∀ j, j < n → -9223372036854775808 ≤ f j ∧ f j < 9223372036854775808) : SliceI W v n f := by
  rcases h.2 with ⟨rfl, rfl⟩ | ⟨g, cap, cur, rfl, _, hg, h1, h2, h3, h4⟩
  · exact slice_nilI
  · refine ⟨⟨_, _, rfl, h1, h2, fun _ => ⟨g, 0, rfl, (Array.getElem?_eq_some_iff.1 hg).1, fun j hj => ?_⟩⟩, hf⟩
    rw [cell_of_row _ _ _ _ _ _ hg, Nat.zero_add, ← Array.getElem?_toList]
    have := intsL_get (f := f) hj
    rw [← h4, List.getElem?_take, if_pos (by omega)] at this
    exact this
set_option maxRecDepth 100000 in
theorem pfit1 {na nd nm : Int} (hin : fiN na nd nm) (V : World) : Calls Try.prog 20 #[.int .i64 na, .int .i64 nd, .int .i64 nm] V fun e w' => e = .returned (.bool true) ∧ Below V.heap.size V w' := by
  go_enter Try.func20, Try.ntmps20
  refine wo_ 30 [(0, .int .i64 na), (1, .int .i64 nd), (2, .int .i64 nm)] ?_
  rintro a A ⟨t0, t1, t2, -⟩
  refine wp_seq ?_
  refine wi_ A (h3_ t0 t1 t2) (rf_ [] (h3_ t0 t1 t2) ?_)
  rintro a A - ⟨t0, t1, t2, -⟩
  refine wp_seq ?_
  refine wi_ A (h3_ t0 t1 t2) (rv_ 1 (.bool true) (fun a ee => execLeIt rfl rfl (ee _) hin.1) (rv_ 5 (.bool true) (fun a ee => execLeIt rfl (ee _) (ee _) hin.2.1) (rv_ 9 (.bool true) (fun a ee => execLeIt rfl rfl (ee _) hin.2.2.1) (rv_ 13 (.bool true) (fun a ee => execLeIt rfl (ee _) rfl hin.2.2.2.1) (rv_ 17 (.bool true) (fun a ee => execLeIt rfl rfl (ee _) hin.2.2.2.2.1) (rv_ 21 (.bool true) (fun a ee => execLeIt rfl (ee _) rfl hin.2.2.2.2.2) (rg_ [(6, .bool true)] ?_)))))))
  rintro a A ⟨t6, -⟩
  refine wp_ret ?_
  refine bodyPost_ret (results_tmp rfl _ _ _) A.2 ⟨?_, Below.refl _ _⟩
  show Ending.returned (a.eval (.tmp 6)) = _
  rw [t6]
set_option maxRecDepth 100000 in
theorem pfit0 {na nd nm : Int} (hin : ¬ fiN na nd nm) (V : World) : Calls Try.prog 20 #[.int .i64 na, .int .i64 nd, .int .i64 nm] V fun e w' => e = .returned (.bool false) ∧ Below V.heap.size V w' := by
  go_enter Try.func20, Try.ntmps20
  refine wo_ 30 [(0, .int .i64 na), (1, .int .i64 nd), (2, .int .i64 nm)] ?_
  rintro a A ⟨t0, t1, t2, -⟩
  refine wp_seq ?_
  refine wi_ A (h3_ t0 t1 t2) (rf_ [] (h3_ t0 t1 t2) ?_)
  rintro a A - ⟨t0, t1, t2, -⟩
  refine wp_seq ?_
  have key : ∀ a : Act, (a.tmps.size = 30 ∧ a.defers = []) → Hd a [(6, .bool false)] → Code.ret.wp Try.prog (bodyPost Try.prog Try.f20 fun e w' => e = .returned (.bool false) ∧ Below V.heap.size V w') a V := by
    rintro a A ⟨t6, -⟩
    refine wp_ret ?_
    refine bodyPost_ret (results_tmp rfl _ _ _) A.2 ⟨?_, Below.refl _ _⟩
    show Ending.returned (a.eval (.tmp 6)) = _
    rw [t6]
  by_cases q0 : 0 ≤ na
  · by_cases q1 : na ≤ nd
    · by_cases q2 : 1 ≤ nd
      · by_cases q3 : nd ≤ 1000
        · by_cases q4 : 0 ≤ nm
          · by_cases q5 : nm ≤ 16
            · exact absurd ⟨q0, q1, q2, q3, q4, q5⟩ hin
            · exact wi_ A (h3_ t0 t1 t2) (rv_ 1 (.bool true) (fun a ee => execLeIt rfl rfl (ee _) q0) (rv_ 5 (.bool true) (fun a ee => execLeIt rfl (ee _) (ee _) q1) (rv_ 9 (.bool true) (fun a ee => execLeIt rfl rfl (ee _) q2) (rv_ 13 (.bool true) (fun a ee => execLeIt rfl (ee _) rfl q3) (rv_ 17 (.bool true) (fun a ee => execLeIt rfl rfl (ee _) q4) (rv_ 21 (.bool false) (fun a ee => execLeIf rfl (ee _) rfl q5) (rg_ [(6, .bool false)] key)))))))
          · exact wi_ A (h3_ t0 t1 t2) (rv_ 1 (.bool true) (fun a ee => execLeIt rfl rfl (ee _) q0) (rv_ 5 (.bool true) (fun a ee => execLeIt rfl (ee _) (ee _) q1) (rv_ 9 (.bool true) (fun a ee => execLeIt rfl rfl (ee _) q2) (rv_ 13 (.bool true) (fun a ee => execLeIt rfl (ee _) rfl q3) (rv_ 17 (.bool false) (fun a ee => execLeIf rfl rfl (ee _) q4) (rg_ [(6, .bool false)] key))))))
        · exact wi_ A (h3_ t0 t1 t2) (rv_ 1 (.bool true) (fun a ee => execLeIt rfl rfl (ee _) q0) (rv_ 5 (.bool true) (fun a ee => execLeIt rfl (ee _) (ee _) q1) (rv_ 9 (.bool true) (fun a ee => execLeIt rfl rfl (ee _) q2) (rv_ 13 (.bool false) (fun a ee => execLeIf rfl (ee _) rfl q3) (rg_ [(6, .bool false)] key)))))
      · exact wi_ A (h3_ t0 t1 t2) (rv_ 1 (.bool true) (fun a ee => execLeIt rfl rfl (ee _) q0) (rv_ 5 (.bool true) (fun a ee => execLeIt rfl (ee _) (ee _) q1) (rv_ 9 (.bool false) (fun a ee => execLeIf rfl rfl (ee _) q2) (rg_ [(6, .bool false)] key))))
    · exact wi_ A (h3_ t0 t1 t2) (rv_ 1 (.bool true) (fun a ee => execLeIt rfl rfl (ee _) q0) (rv_ 5 (.bool false) (fun a ee => execLeIf rfl (ee _) (ee _) q1) (rg_ [(6, .bool false)] key)))
  · exact wi_ A (h3_ t0 t1 t2) (rv_ 1 (.bool false) (fun a ee => execLeIf rfl rfl (ee _) q0) (rg_ [(6, .bool false)] key))
set_option maxRecDepth 100000 in
set_option maxHeartbeats 4000000 in
/-- The sums of the weights. -/
theorem psums (c d m : Nat) (V : World) (had : c ≤ d) (h1 : 1 ≤ d) (h2 : d ≤ 1000) (hm : m ≤ 16) :
    Calls Try.prog 21 #[.int .i64 ((c : Nat) : Int), .int .i64 ((d : Nat) : Int), .int .i64 ((m : Nat) : Int)] V fun e w' => ∃ r, e = .returned r ∧ w'.ownsRow V.heap.size 2 1 r (m + 1) (intsL (m + 1) (fun j => ((uN c d j : Nat) : Int))) ∧ Below V.heap.size V w' := by
  go_enter Try.func21, Try.ntmps21
  refine wp_seq ?_
  refine wo_ 33 [(0, .int .i64 ((c : Nat) : Int)), (1, .int .i64 ((d : Nat) : Int)), (2, .int .i64 ((m : Nat) : Int))] ?_
  rintro a A ⟨t0, t1, t2, -⟩
  refine wi_ A (h3_ t0 t1 t2) (rf_ [] (h3_ t0 t1 t2) ?_)
  rintro a A - ⟨t0, t1, t2, -⟩
  have BW : Below V.heap.size V V := Below.refl _ _
  have BB := BW
  refine wp_seq ?_
  obtain ⟨g7, egg7⟩ : ∃ z_ : Nat, V.heap.size = z_ := ⟨_, rfl⟩
  refine wi_ A (h3_ t0 t1 t2) (rv_ 1 (.int .i64 ((m + 1 : Nat) : Int)) (fun a ee => execAd8 (p := m) (q := 1) rfl (ee _) rfl (by omega)) (rs_ 2 (fun a ee => ?_)))
  refine stepV rfl rfl (execMk64 rfl (ee _) (ee _) (by omega)) ⟨.slice (some ⟨g7, 0, none⟩) (m + 1) (m + 1), ⟨_, rfl, by subst egg7; rfl⟩, fun X1 hX => ?_⟩
  have bQ : Below V.heap.size V X1 := by subst hX egg7; exact (belNew V _)
  have FO : (X1.ownsRow V.heap.size 2 1 (.slice (some ⟨g7, 0, none⟩) (m + 1) (m + 1)) (m + 1) (intsL (m + 1) (fun j => if j < 0 then ((uN c d j : Nat) : Int) else 0))) := by subst hX egg7; exact ownD_base (own_mk64 V (m + 1) _ (by omega) (fun j_ _ => if_neg (Nat.not_lt_zero _))) (BB).size
  have Fg : (V.heap.size ≤ g7) := by subst hX egg7; exact (BB).size
  replace BB := BB.trans (bQ.mono BB.size)
  clear bQ hX egg7 ee a
  refine rf_ [(7, .slice (some ⟨g7, 0, none⟩) (m + 1) (m + 1))] (h2_ t0 t1) ?_
  rintro a A ⟨t7, -⟩ ⟨t0, t1, -⟩
  refine wp_seq ?_
  refine wi_ A (h3_ t0 t1 t7) (rf_ [(8, .int .i64 ((4294967296 : Nat) : Int)), (9, .int .i64 ((0 : Nat) : Int))] (h3_ t0 t1 t7) ?_)
  rintro a A ⟨t8, t9, -⟩ ⟨t0, t1, t7, -⟩
  refine wp_seq ?_
  refine wp_seq ?_
  refine wi_ A (h5_ t0 t1 t7 t8 t9) (rv_ 1 (.int .i64 ((m + 1 : Nat) : Int)) (fun a ee => execLen64 (len := m + 1) rfl (ee _) ⟨_, _, rfl⟩) (rf_ [(15, .int .i64 ((m + 1 : Nat) : Int)), (16, .int .i64 ((0 : Nat) : Int))] (h5_ t0 t1 t7 t8 t9) ?_))
  rintro a A ⟨t15, t16, -⟩ ⟨t0, t1, t7, t8, t9, -⟩
  refine wp_block ?_
  refine wp_loop (fun a W => ∃ (i : Nat), i ≤ m + 1 ∧ (a.tmps.size = 33 ∧ a.defers = []) ∧ a.eval (.tmp 0) = .int .i64 ((c : Nat) : Int) ∧ a.eval (.tmp 1) = .int .i64 ((d : Nat) : Int) ∧ a.eval (.tmp 7) = .slice (some ⟨g7, 0, none⟩) (m + 1) (m + 1) ∧ a.eval (.tmp 8) = .int .i64 ((wN c d i : Nat) : Int) ∧ a.eval (.tmp 9) = .int .i64 ((sN c d i : Nat) : Int) ∧ a.eval (.tmp 15) = .int .i64 ((m + 1 : Nat) : Int) ∧ a.eval (.tmp 16) = .int .i64 ((i : Nat) : Int) ∧ Below V.heap.size V W ∧ (W.ownsRow V.heap.size 2 1 (.slice (some ⟨g7, 0, none⟩) (m + 1) (m + 1)) (m + 1) (intsL (m + 1) (fun j => if j < i then ((uN c d j : Nat) : Int) else 0)))) (fun a _ => m + 1 - (intOf (a.eval (.tmp 16))).toNat) ⟨0, Nat.zero_le _, A, t0, t1, t7, t8, t9, t15, t16, BB, FO⟩ ?_
  clear A t0 t1 t7 t8 t9 t15 t16 BB FO a
  rintro a XL4 ⟨i, hi, A, t0, t1, t7, t8, t9, t15, t16, BB, FO⟩
  have esi := t16
  refine wp_seq ?_
  refine wi_ A (h7_ t0 t1 t7 t8 t9 t15 t16) (rv_ 0 (.bool (decide (i < m + 1))) (fun a ee => execLtW (p := i) (q := m + 1) rfl (ee _) (ee _)) (rf_ [(17, .bool (decide (i < m + 1)))] (h7_ t0 t1 t7 t8 t9 t15 t16) ?_))
  rintro a A ⟨t17, -⟩ ⟨t0, t1, t7, t8, t9, t15, t16, -⟩
  refine wp_seq ?_
  by_cases lti : i < m + 1
  · rw [decide_eq_true lti] at t17
    refine wp_cond_true t17 ?_
    refine wp_skip ?_
    clear t17
    refine wp_seq ?_
    refine wp_block ?_
    have hwi := w_le had i
    have hsi := s_le had i
    have hmu : wN c d i * c ≤ 4294967296 * 1000 := Nat.mul_le_mul hwi (by omega)
    refine wp_seq ?_
    refine wi_ A (h7_ t0 t1 t7 t8 t9 t15 t16) (rf_ [(10, .int .i64 ((i : Nat) : Int))] (h7_ t0 t1 t7 t8 t9 t15 t16) ?_)
    rintro a A ⟨t10, -⟩ ⟨t0, t1, t7, t8, t9, t15, t16, -⟩
    refine wp_seq ?_
    refine wi_ A (h8_ t0 t1 t7 t8 t9 t15 t16 t10) (rv_ 2 (.int .i64 (((sN c d i) + (wN c d i) : Nat) : Int)) (fun a ee => execAdd64 (p := sN c d i) (q := wN c d i) rfl (ee _) (ee _) (by omega)) (rf_ [(9, .int .i64 (((sN c d i) + (wN c d i) : Nat) : Int))] (h7_ t0 t1 t7 t8 t15 t16 t10) ?_))
    rintro a A ⟨t9, -⟩ ⟨t0, t1, t7, t8, t15, t16, t10, -⟩
    rw [show sN c d i + wN c d i = sN c d (i + 1) from rfl] at t9
    refine wp_seq ?_
    refine wi_ A (h8_ t0 t1 t7 t8 t9 t15 t16 t10) (rv_ 3 (.pointer (some ⟨g7, 0 + i, none⟩)) (fun a ee => execIdx64 (k := i) rfl (ee _) (ee _) lti) (rs_ 4 (fun a ee => ?_)))
    obtain ⟨hc_, hf_⟩ := own_cell64 FO lti
    refine stepS rfl rfl (execSt64 rfl (ee _) (ee _) hc_ hf_) ⟨_, ⟨_, rfl, rfl⟩, fun X7 hX => ?_⟩
    obtain ⟨BB, FO2⟩ : Below V.heap.size V X7 ∧ (X7.ownsRow V.heap.size 2 1 (.slice (some ⟨g7, 0, none⟩) (m + 1) (m + 1)) (m + 1) (intsL (m + 1) (fun j => if j < (i + 1) then ((uN c d j : Nat) : Int) else 0))) := by subst hX; exact ⟨(BB).setCell Fg _, own_fill64 FO (congrArg (fun z : Nat => (z : Int)) s_u)⟩
    clear FO hX ee a
    refine rf_ [] (h7_ t0 t1 t7 t8 t9 t15 t16) ?_
    rintro a A - ⟨t0, t1, t7, t8, t9, t15, t16, -⟩
    refine wi_ A (h7_ t0 t1 t7 t8 t9 t15 t16) (rv_ 2 (.int .i64 (((wN c d i) * c : Nat) : Int)) (fun a ee => execMul64 (p := wN c d i) (q := c) rfl (ee _) (ee _) (by omega)) (rv_ 4 (.int .i64 ((((wN c d i) * c) / d : Nat) : Int)) (fun a ee => execQuo64 (p := (wN c d i) * c) (q := d) rfl (ee _) (ee _) (by omega) (by omega)) (rf_ [(8, .int .i64 ((((wN c d i) * c) / d : Nat) : Int))] (h6_ t0 t1 t7 t9 t15 t16) ?_)))
    rintro a A ⟨t8, -⟩ ⟨t0, t1, t7, t9, t15, t16, -⟩
    refine wi_ A (h7_ t0 t1 t7 t8 t9 t15 t16) (rv_ 0 (.int .i64 ((i + 1 : Nat) : Int)) (fun a ee => execAd8 (p := i) (q := 1) rfl (ee _) rfl (by omega)) (rf_ [(16, .int .i64 ((i + 1 : Nat) : Int))] (h6_ t0 t1 t7 t8 t9 t15) ?_))
    rintro a A ⟨t16, -⟩ ⟨t0, t1, t7, t8, t9, t15, -⟩
    exact ⟨⟨i + 1, lti, A, t0, t1, t7, t8, t9, t15, t16, BB, FO2⟩, by show m + 1 - (intOf (a.eval (.tmp 16))).toNat < m + 1 - (intOf (Act.eval _ (.tmp 16))).toNat; rw [t16, esi]; show m + 1 - (i + 1) < m + 1 - i; omega⟩
  · rw [decide_eq_false lti] at t17
    refine wp_cond_false t17 ?_
    refine wp_exit ?_
    first | with_reducible refine exit_in ?_ | with_reducible refine exit_then (exit_in ?_) | with_reducible refine exit_then (exit_then (exit_in ?_)) | refine exit_in ?_ | refine exit_then (exit_in ?_) | refine exit_then (exit_then (exit_in ?_))
    clear t17 esi
    have hik : i = m + 1 := by omega
    rw [hik] at FO
    rw [intsL_congr (g := fun j => ((uN c d j : Nat) : Int)) (fun j hj => if_pos hj)] at FO
    clear t0 t1 t8 t9 t15 t16
    refine wp_seq ?_
    refine wi_ A (h1_ t7) (rg_ [(6, .slice (some ⟨g7, 0, none⟩) (m + 1) (m + 1))] ?_)
    rintro a A ⟨t6, -⟩
    refine wp_ret ?_
    refine bodyPost_ret (results_tmp rfl _ _ _) A.2 ⟨_, ?_, FO, BB⟩
    show Ending.returned (a.eval (.tmp 6)) = _
    rw [t6]
set_option maxRecDepth 100000 in
set_option maxHeartbeats 4000000 in
/-- The program's Table. -/
theorem ptable (na nd nm : Int) (V : World) :
    Calls Try.prog 10 #[.int .i64 na, .int .i64 nd, .int .i64 nm] V fun e w' => ∃ r, e = .returned (.tuple #[r, .int .i64 ((tbE na nd nm : Nat) : Int)]) ∧ w'.ownsRow V.heap.size 3 1 r (zl (tbE na nd nm) (nm.toNat + 1)) (intsL (zl (tbE na nd nm) (nm.toNat + 1)) (tbF na nd nm)) ∧ Below V.heap.size V w' := by
  go_enter Try.func10, Try.ntmps10
  refine wp_seq ?_
  refine wo_ 43 [(0, .int .i64 na), (1, .int .i64 nd), (2, .int .i64 nm)] ?_
  rintro a A ⟨t0, t1, t2, -⟩
  refine wi_ A (h3_ t0 t1 t2) (rf_ [] (h3_ t0 t1 t2) ?_)
  rintro a A - ⟨t0, t1, t2, -⟩
  have BW : Below V.heap.size V V := Below.refl _ _
  refine wp_seq ?_
  refine wp_seq ?_
  by_cases hin : fiN na nd nm
  · obtain ⟨c, rfl⟩ : ∃ c : Nat, na = c := ⟨na.toNat, by have := hin.1; omega⟩
    obtain ⟨d, rfl⟩ : ∃ d : Nat, nd = d := ⟨nd.toNat, by have := hin.2.2.1; omega⟩
    obtain ⟨m, rfl⟩ : ∃ m : Nat, nm = m := ⟨nm.toNat, by have := hin.2.2.2.2.1; omega⟩
    obtain ⟨g0, g1, g2, g3, g4, g5⟩ := id hin
    have had : c ≤ d := by omega
    have h1 : 1 ≤ d := by omega
    have h2 : d ≤ 1000 := by omega
    have hm : m ≤ 16 := by omega
    refine wi_ A (h3_ t0 t1 t2) (rc_ 3 (pfit1 hin V) (cb_ fun X1 bQ => ?_))
    have bX := bQ
    clear bQ
    refine rv_ 4 (.bool false) (fun a ee => execNot8 (b := true) rfl (ee _)) (rf_ [(16, .bool false)] (h3_ t0 t1 t2) ?_)
    rintro a A ⟨t16, -⟩ ⟨t0, t1, t2, -⟩
    have ZX1 := bX.size
    replace BW := BW.trans (bX.mono BW.size)
    clear bX
    refine wp_cond_false t16 ?_
    refine wp_skip ?_
    clear t16
    have huf : ∀ j, j < m + 1 → -9223372036854775808 ≤ ((uN c d j : Nat) : Int) ∧ ((uN c d j : Nat) : Int) < 9223372036854775808 := fun j hj => by
      have hq := u_le had j
      have hq2 : uN c d j ≤ 17 * 4294967296 := Nat.le_trans hq (Nat.mul_le_mul_right _ (by omega))
      omega
    refine wp_seq ?_
    refine wi_ A (h3_ t0 t1 t2) (rc_ 3 (psums c d m X1 had h1 h2 hm) fun e X3 hh => ?_)
    obtain ⟨l_, he, hk, hb⟩ := hh
    refine ⟨_, he, ?_⟩
    have bQ : Below X1.heap.size X1 X3 := hb
    have Fl : (SliceI X3 l_ (m + 1) (fun j => ((uN c d j : Nat) : Int))) := own_ints64 hk huf
    have bX := bQ
    clear bQ
    refine rf_ [(8, l_)] (h1_ t2) ?_
    rintro a A ⟨t8, -⟩ ⟨t2, -⟩
    have ZX3 := bX.size
    replace BW := BW.trans (bX.mono BW.size)
    clear bX
    have BB : Below X3.heap.size X3 X3 := Below.refl _ _
    obtain ⟨llb, llo, llc, ell, hllb, hllc⟩ := open_sl Fl (by omega)
    have cll : ∀ k, k < m + 1 → ∀ X, Below X3.heap.size X3 X → X.cell? ⟨llb, llo + k, none⟩ = some (.int .i64 ((fun j => ((uN c d j : Nat) : Int)) k)) := fun k hk X hX => by rw [cell_below hX hllb]; exact hllc k hk
    refine wp_seq ?_
    obtain ⟨g9, egg9⟩ : ∃ z_ : Nat, X3.heap.size = z_ := ⟨_, rfl⟩
    refine wi_ A (h2_ t2 t8) (rv_ 1 (.int .i64 ((m + 1 : Nat) : Int)) (fun a ee => execLen64 (len := m + 1) rfl (ee _) ⟨_, _, ell⟩) (rs_ 2 (fun a ee => ?_)))
    refine stepV rfl rfl (execMkN rfl (ee _) (ee _) (by omega)) ⟨.slice (some ⟨g9, 0, none⟩) (m + 1) (m + 1), ⟨_, rfl, by subst egg9; rfl⟩, fun X4 hX => ?_⟩
    have bQ : Below X3.heap.size X3 X4 := by subst hX egg9; exact (belNew X3 _)
    have FO : (X4.ownsRow X3.heap.size 3 1 (.slice (some ⟨g9, 0, none⟩) (m + 1) (m + 1)) (m + 1) (intsL (m + 1) (fun j => if j < 0 then ((tbN c d m j : Nat) : Int) else 0))) := by subst hX egg9; exact ownD_base (own_mkZ X3 (m + 1) _ (by omega) (fun j_ _ => if_neg (Nat.not_lt_zero _))) (BB).size
    have Fg : (X3.heap.size ≤ g9) := by subst hX egg9; exact (BB).size
    replace BB := BB.trans (bQ.mono BB.size)
    clear bQ hX egg9 ee a
    refine rf_ [(9, .slice (some ⟨g9, 0, none⟩) (m + 1) (m + 1))] (h2_ t2 t8) ?_
    rintro a A ⟨t9, -⟩ ⟨t2, t8, -⟩
    refine wp_seq ?_
    refine wp_seq ?_
    refine wi_ A (h3_ t2 t8 t9) (rv_ 1 (.int .i64 ((m + 1 : Nat) : Int)) (fun a ee => execLen64 (len := m + 1) rfl (ee _) ⟨_, _, ell⟩) (rf_ [(24, l_), (25, .int .i64 ((m + 1 : Nat) : Int)), (26, .int .i64 ((0 : Nat) : Int))] (h3_ t2 t8 t9) ?_))
    rintro a A ⟨t24, t25, t26, -⟩ ⟨t2, t8, t9, -⟩
    refine wp_block ?_
    refine wp_loop (fun a W => ∃ (i : Nat), i ≤ m + 1 ∧ (a.tmps.size = 43 ∧ a.defers = []) ∧ a.eval (.tmp 2) = .int .i64 ((m : Nat) : Int) ∧ a.eval (.tmp 8) = l_ ∧ a.eval (.tmp 9) = .slice (some ⟨g9, 0, none⟩) (m + 1) (m + 1) ∧ a.eval (.tmp 24) = l_ ∧ a.eval (.tmp 25) = .int .i64 ((m + 1 : Nat) : Int) ∧ a.eval (.tmp 26) = .int .i64 ((i : Nat) : Int) ∧ Below X3.heap.size X3 W ∧ (W.ownsRow X3.heap.size 3 1 (.slice (some ⟨g9, 0, none⟩) (m + 1) (m + 1)) (m + 1) (intsL (m + 1) (fun j => if j < i then ((tbN c d m j : Nat) : Int) else 0)))) (fun a _ => m + 1 - (intOf (a.eval (.tmp 26))).toNat) ⟨0, Nat.zero_le _, A, t2, t8, t9, t24, t25, t26, BB, FO⟩ ?_
    clear A t2 t8 t9 t24 t25 t26 BB FO a
    rintro a XL6 ⟨i, hi, A, t2, t8, t9, t24, t25, t26, BB, FO⟩
    have esi := t26
    refine wp_seq ?_
    refine wi_ A (h6_ t2 t8 t9 t24 t25 t26) (rv_ 0 (.bool (decide (i < m + 1))) (fun a ee => execLtW (p := i) (q := m + 1) rfl (ee _) (ee _)) (rf_ [(27, .bool (decide (i < m + 1)))] (h6_ t2 t8 t9 t24 t25 t26) ?_))
    rintro a A ⟨t27, -⟩ ⟨t2, t8, t9, t24, t25, t26, -⟩
    refine wp_seq ?_
    by_cases lti : i < m + 1
    · rw [decide_eq_true lti] at t27
      refine wp_cond_true t27 ?_
      refine wp_skip ?_
      clear t27
      refine wp_seq ?_
      refine wp_block ?_
      have hui := u_le had i
      have hug := u_ge (a := c) (d := d) m
      have hu2 : uN c d i ≤ 17 * 4294967296 := Nat.le_trans hui (Nat.mul_le_mul_right _ (by omega))
      refine wp_seq ?_
      refine wi_ A (h6_ t2 t8 t9 t24 t25 t26) (rv_ 1 (.pointer (some ⟨llb, llo + i, none⟩)) (fun a ee => execIdx64 (k := i) rfl ((ee _).trans ell) (ee _) (by omega)) (rv_ 2 (.int .i64 ((uN c d i : Nat) : Int)) (fun a ee => execLd64 rfl (ee _) (cll i (by omega) XL6 BB)) (rf_ [(10, .int .i64 ((i : Nat) : Int)), (11, .int .i64 ((uN c d i : Nat) : Int))] (h6_ t2 t8 t9 t24 t25 t26) ?_)))
      rintro a A ⟨t10, t11, -⟩ ⟨t2, t8, t9, t24, t25, t26, -⟩
      refine wi_ A (h8_ t2 t8 t9 t24 t25 t26 t10 t11) (rv_ 3 (.int .i64 ((65536 * (uN c d i) : Nat) : Int)) (fun a ee => execMul64 (p := 65536) (q := uN c d i) rfl rfl (ee _) (by omega)) (rv_ 6 (.pointer (some ⟨llb, llo + m, none⟩)) (fun a ee => execIdx64 (k := m) rfl ((ee _).trans ell) (ee _) (by omega)) (rv_ 7 (.int .i64 ((uN c d m : Nat) : Int)) (fun a ee => execLd64 rfl (ee _) (cll m (by omega) XL6 BB)) (rv_ 8 (.int .i64 (((65536 * (uN c d i)) / (uN c d m) : Nat) : Int)) (fun a ee => execQuo64 (p := 65536 * (uN c d i)) (q := uN c d m) rfl (ee _) (ee _) (by omega) (by omega)) (rv_ 9 (.pointer (some ⟨g9, 0 + i, none⟩)) (fun a ee => execIdxN (k := i) rfl (ee _) (ee _) lti) (rs_ 10 (fun a ee => ?_)))))))
      obtain ⟨hc_, hf_⟩ := own_cell64 FO lti
      refine stepS rfl rfl (execStI9 rfl (ee _) (ee _) hc_ hf_) ⟨_, ⟨_, rfl, rfl⟩, fun X8 hX => ?_⟩
      obtain ⟨BB, FO2⟩ : Below X3.heap.size X3 X8 ∧ (X8.ownsRow X3.heap.size 3 1 (.slice (some ⟨g9, 0, none⟩) (m + 1) (m + 1)) (m + 1) (intsL (m + 1) (fun j => if j < (i + 1) then ((tbN c d m j : Nat) : Int) else 0))) := by subst hX; exact ⟨(BB).setCell Fg _, own_fill64 FO rfl⟩
      clear FO hX ee a
      refine rf_ [] (h6_ t2 t8 t9 t24 t25 t26) ?_
      rintro a A - ⟨t2, t8, t9, t24, t25, t26, -⟩
      refine wi_ A (h6_ t2 t8 t9 t24 t25 t26) (rv_ 0 (.int .i64 ((i + 1 : Nat) : Int)) (fun a ee => execAd8 (p := i) (q := 1) rfl (ee _) rfl (by omega)) (rf_ [(26, .int .i64 ((i + 1 : Nat) : Int))] (h5_ t2 t8 t9 t24 t25) ?_))
      rintro a A ⟨t26, -⟩ ⟨t2, t8, t9, t24, t25, -⟩
      exact ⟨⟨i + 1, lti, A, t2, t8, t9, t24, t25, t26, BB, FO2⟩, by show m + 1 - (intOf (a.eval (.tmp 26))).toNat < m + 1 - (intOf (Act.eval _ (.tmp 26))).toNat; rw [t26, esi]; show m + 1 - (i + 1) < m + 1 - i; omega⟩
    · rw [decide_eq_false lti] at t27
      refine wp_cond_false t27 ?_
      refine wp_exit ?_
      first | with_reducible refine exit_in ?_ | with_reducible refine exit_then (exit_in ?_) | with_reducible refine exit_then (exit_then (exit_in ?_)) | refine exit_in ?_ | refine exit_then (exit_in ?_) | refine exit_then (exit_then (exit_in ?_))
      clear t27 esi
      have him : i = m + 1 := by omega
      rw [him] at FO
      rw [intsL_congr (g := fun j => ((tbN c d m j : Nat) : Int)) (fun j hj => if_pos hj)] at FO
      clear t2 t8 t24 t25 t26
      have hE : tbE ((c : Nat) : Int) ((d : Nat) : Int) ((m : Nat) : Int) = 0 := if_pos hin
      rw [hE, zl_ok]
      have BW2 := BW.trans (BB.mono BW.size)
      refine wp_seq ?_
      refine wi_ A (h1_ t9) (rg_ [(6, .slice (some ⟨g9, 0, none⟩) (m + 1) (m + 1)), (7, .int .i64 ((0 : Nat) : Int))] ?_)
      rintro a A ⟨t6, t7, -⟩
      refine wp_ret ?_
      refine bodyPost_ret (results_tmp2 rfl _ _ _) A.2 ⟨_, ?_, ownD_base FO BW.size, BW2⟩
      show Ending.returned (.tuple #[a.eval (.tmp 6), a.eval (.tmp 7)]) = _
      rw [t6, t7]
  · refine wi_ A (h3_ t0 t1 t2) (rc_ 3 (pfit0 hin V) (cb_ fun X1 bQ => ?_))
    have bX := bQ
    clear bQ
    refine rv_ 4 (.bool true) (fun a ee => execNot8 (b := false) rfl (ee _)) (rg_ [(16, .bool true)] ?_)
    rintro a A ⟨t16, -⟩
    have ZX1 := bX.size
    replace BW := BW.trans (bX.mono BW.size)
    clear bX
    refine wp_cond_true t16 ?_
    clear t16
    refine wp_seq ?_
    refine wi_ A h0_ (rg_ [(6, .slice none 0 0), (7, .int .i64 ((2 : Nat) : Int))] ?_)
    rintro a A ⟨t6, t7, -⟩
    have hE : tbE na nd nm = 2 := if_neg hin
    rw [hE, zl_no (by decide)]
    refine wp_ret ?_
    repeat (first | with_reducible refine ret_in ?_ | with_reducible refine ret_then ?_)
    refine bodyPost_ret (results_tmp2 rfl _ _ _) A.2 ⟨_, ?_, World.ownsRow_nil _ _ _ _, BW⟩
    show Ending.returned (.tuple #[a.eval (.tmp 6), a.eval (.tmp 7)]) = _
    rw [t6, t7]
end Go.Proofs.Ytmfaapbhehhlpaa.Noi
