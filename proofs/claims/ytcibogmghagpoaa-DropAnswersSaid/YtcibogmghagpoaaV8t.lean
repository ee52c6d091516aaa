import Derived.Test.YtcibogmghagpoaaV8b
import Derived.Test.YtcibogmghagpoaaQ9a
import Derived.Test.YtcibogmghagpoaaX7b
namespace Go.Proofs.Ytcibogmghagpoaa.Dro
open Go.RowKit Gf8 Aes By8 Cel Cf Tap Drw Brd
/- slices.Grow of nothing, slices.Concat of bytes (as X9f, in stage 28). -/

section
variable {o : Oper} {a : Act} {w : World}
theorem execLenLs {x : Operand} {v : Value} {len : Nat} (ho : o.op = .call { callee := .builtin .len, args := #[x], argTypes := #[29] }) (hx : a.eval x = v) (hv : ∃ ao c, v = .slice ao len c) : (execOp a.eval o).run Try.prog w = .ok (.value (.int .i64 (len : Int))) w := by
  obtain ⟨ao, c, rfl⟩ := hv
  exact execLenL ho hx
end
/-- A list of lists of bytes, of any lengths. -/
structure LLX (W : World) (v : Value) (J : Nat) (x : Nat → Value) (ln : Nat → Nat) (gg : Nat → Nat → Nat) : Prop where
  shape : ∃ a cap, v = .slice a J cap ∧ (0 < J → ∃ b off, a = some ⟨b, off, none⟩ ∧ b < W.heap.size ∧ ∀ j, j < J → W.cell? ⟨b, off + j, none⟩ = some (x j))
  lists : ∀ j, j < J → SliceN W (x j) (ln j) (gg j)
  nils : ∀ j, j < J → ∀ l c, x j = .slice none l c → c = 0
theorem LLX.at {W : World} {v : Value} {J : Nat} {x : Nat → Value} {ln : Nat → Nat} {gg : Nat → Nat → Nat} (h : LLX W v J x ln gg) (hJ : 0 < J) : ∃ b o c, v = .slice (some ⟨b, o, none⟩) J c ∧ b < W.heap.size ∧ ∀ j, j < J → W.cell? ⟨b, o + j, none⟩ = some (x j) := by
  obtain ⟨a, c, rfl, hs⟩ := h.shape
  obtain ⟨b, o, rfl, h1, h2⟩ := hs hJ
  exact ⟨b, o, c, rfl, h1, h2⟩
section
variable {o : Oper} {a : Act} {w : World}
theorem execCap0 {x : Operand} {n c : Nat} {ad : Option Addr} (ho : o.op = .call { callee := .builtin .cap, args := #[x], argTypes := #[23] }) (hx : a.eval x = .slice ad n c) : (execOp a.eval o).run Try.prog w = .ok (.value (.int .i64 (c : Int))) w := by
  unfold execOp
  simp only [ho, resolve, invoke, builtin, Sem.run_bind, Sem.run_pure, Result.andThen_ok, List.map_toArray, List.map_cons, List.map_nil, hx]
  simp [go_sem]
end
theorem runMk_nil (w : World) (ty : TypeId) (m : Nat) (h0 : 0 < m) (hm : m ≤ 140737488351232) :
    (Builtin.append_ #[23, 3] ty #[.slice none 0 0, .int .i64 (m : Int)]).run Try.prog w =
      .ok (.slice (some ⟨w.heap.size, 0, none⟩) m (grownCap w m 0 5)) (w.drew.alloc (.cells (Builtin.zeroCells (Value.int .u8 0).cells m ++ Builtin.zeroCells (Value.int .u8 0).cells (grownCap w m 0 5 - m)) 5)) := by
  obtain ⟨i, i1, i2, i3, i4⟩ := info5
  have hu : Try.prog.underlying 3 = some (.int .i64) := by kernel_rfl
  have e1 : IntKind.i64.wrap (m : Int) = m := wrap_i64_nat (by omega)
  have e2 : ¬ ((m : Int) < 0) := by omega
  have e3 : ¬ (281474976710656 < (m : Int)) := by omega
  have e4 : m ≠ 0 := by omega
  have e6 : max (m : Int) 0 = m := by omega
  have h63' : ¬ (9223372036854775807 < (m : Int)) := by omega
  have h48' : ¬ (281474976710656 < Builtin.nextslicecap m 0) := by rw [nextslicecap_zero h0]; omega
  simp [Builtin.append_, run_underlying Try.underlying23, run_underlying hu, sizeOf, typeInfo, zeroValue, i1, i2, i3, i4, asInt, asIntOf, e1, e2, e3, e4, e6, h63', h48', Question.forced, run_firstCells_none, newRow, grownCap]
theorem stepMkN0 {ops : Array Oper} {Q : Exit → Act → World → Prop} {K : Act → World → Prop} {j : Nat} {o : Oper} {a : Act} {W : World} {s x : Operand} {B m : Nat} {F : Nat → Nat} (hos : ops[j]? = some o) (hgd : Region.wanted o (yielded ops a.tmps) = true)
    (ho : o.op = .call { callee := .builtin .append, args := #[s, x], argTypes := #[23, 3] }) (hs : a.eval s = .slice none 0 0) (hx : a.eval x = .int .i64 (m : Int)) (h0 : 0 < m) (hm : m ≤ 140737488351232) (hB : B ≤ W.heap.size)
    (hK : ∀ c' W', W'.ownsRow B 5 1 (.slice (some ⟨W.heap.size, 0, none⟩) 0 c') 0 (bytesL 0 F) → Below W.heap.size W W' → K (a.put o.dst (.slice (some ⟨W.heap.size, 0, none⟩) m c')) W') : wpOp Try.prog ops Q j K a W := by
  have hr := runMk_nil W o.type m h0 hm
  have hge := grownCap_ge W m 0 5
  have hle := grownCap_le_maxLen W m 0 5 (by unfold maxLen; omega)
  refine stepV hos hgd (v := .slice (some ⟨W.heap.size, 0, none⟩) m (grownCap W m 0 5)) (w' := W.drew.alloc (.cells (Builtin.zeroCells (Value.int .u8 0).cells m ++ Builtin.zeroCells (Value.int .u8 0).cells (grownCap W m 0 5 - m)) 5)) ?_ (hK (grownCap W m 0 5) _ ⟨rfl, Or.inr ⟨W.heap.size, _, _, rfl, hB, heapNew W.drew _, Nat.zero_le _, hle, ?_, rfl⟩⟩ (((Below.refl _ _).drew).alloc (Nat.le_refl _) _))
  · unfold execOp
    simp only [ho, resolve, invoke, builtin, Sem.run_bind, Sem.run_pure, Result.andThen_ok, List.map_toArray, List.map_cons, List.map_nil, hs, hx, hr]
  · rw [Array.size_append, size_zeroCells, size_zeroCells]
    simp [Value.cells]
    omega
set_option maxRecDepth 100000 in
set_option maxHeartbeats 4000000 in
/-- slices.Grow of nothing. -/
theorem pgrow (F : Nat → Nat) (n : Nat) (V : World) (h0 : 0 < n) (hnx : n ≤ 140737488351232) :
    Calls Try.prog 31 #[.slice none 0 0, .int .i64 ((n : Nat) : Int)] V fun e w' => ∃ r, e = .returned r ∧ w'.ownsRow V.heap.size 5 1 r 0 (bytesL 0 F) ∧ Below V.heap.size V w' := by
  go_enter Try.func31, Try.ntmps31
  refine wp_seq ?_
  refine wo_ 27 [(0, .slice none 0 0), (1, .int .i64 ((n : Nat) : Int))] ?_
  rintro a A ⟨t0, t1, -⟩
  refine wi_ A (h2_ t0 t1) (rf_ [] (h2_ t0 t1) ?_)
  rintro a A - ⟨t0, t1, -⟩
  have BW : Below V.heap.size V V := Below.refl _ _
  refine wp_seq ?_
  refine wp_seq ?_
  refine wi_ A (h2_ t0 t1) (rv_ 1 (.bool false) (fun a ee => execDec (execLtW (p := n) (q := 0) rfl (ee _) rfl) (decide_eq_false (by omega))) (rf_ [(6, .bool false)] (h2_ t0 t1) ?_))
  rintro a A ⟨t6, -⟩ ⟨t0, t1, -⟩
  refine wp_cond_false t6 ?_
  refine wp_skip ?_
  clear t6
  refine wp_seq ?_
  refine wp_seq ?_
  refine wi_ A (h2_ t0 t1) (rv_ 2 (.int .i64 ((0 : Nat) : Int)) (fun a ee => execCap0 rfl (ee _)) (rv_ 4 (.int .i64 ((0 : Nat) : Int)) (fun a ee => execLenV (len := 0) rfl (ee _) ⟨_, _, rfl⟩) (rv_ 5 (.int .i64 ((0 - 0 : Nat) : Int)) (fun a ee => By8.execSubI (p := 0) (q := 0) rfl (ee _) (ee _) (by omega) (by omega)) (rv_ 6 (.int .i64 ((n - (0 - 0) : Nat) : Int)) (fun a ee => By8.execSubI (p := n) (q := 0 - 0) rfl (ee _) (ee _) (by omega) (by omega)) (rf_ [(1, .int .i64 ((n - (0 - 0) : Nat) : Int))] (h1_ t0) ?_)))))
  rintro a A ⟨t1, -⟩ ⟨t0, -⟩
  refine wp_seq ?_
  refine wi_ A (h2_ t0 t1) (rv_ 1 (.bool true) (fun a ee => execDec (execGtN (p := n - (0 - 0)) (q := 0) rfl (ee _) rfl) (decide_eq_true (by omega))) (rf_ [(16, .bool true)] (h2_ t0 t1) ?_))
  rintro a A ⟨t16, -⟩ ⟨t0, t1, -⟩
  refine wp_cond_true t16 ?_
  clear t16
  have en : n - (0 - 0) = n := by omega
  rw [en] at t1
  obtain ⟨g_, egg_⟩ : ∃ z_ : Nat, V.heap.size = z_ := ⟨_, rfl⟩
  refine wi_ A (h2_ t0 t1) (rv_ 2 (.int .i64 ((0 : Nat) : Int)) (fun a ee => execCap0 rfl (ee _)) (rv_ 3 (.slice none 0 0) (fun a ee => By8.execSlH rfl (ee _) (ee _) (By8.slice_h none 0 0 0 (Nat.le_refl _) V)) (rs_ 5 (fun a ee => ?_))))
  refine stepMkN0 (F := F) (B := V.heap.size) rfl rfl rfl (ee _) (ee _) h0 hnx (Nat.le_trans BW.size ((Below.refl V.heap.size V)).size) fun c_ X5 own_' hb_ => ⟨.slice (some ⟨g_, 0, none⟩) n c_, ⟨_, rfl, by subst egg_; rfl⟩, eqw ?_⟩
  have bQ : Below V.heap.size V X5 := hb_
  have FO : (X5.ownsRow V.heap.size 5 1 (.slice (some ⟨g_, 0, none⟩) 0 c_) 0 (bytesL 0 F)) := by subst egg_; exact own_'
  have bX := bQ
  clear bQ egg_ ee a
  refine rv_ 7 (.int .i64 ((0 : Nat) : Int)) (fun a ee => execLenV (len := 0) rfl (ee _) ⟨_, _, rfl⟩) (rv_ 8 (.slice (some ⟨g_, 0, none⟩) 0 c_) (fun a ee => By8.execSlH rfl (ee _) (ee _) (sl_h8 g_ n c_ 0 (Nat.zero_le _) X5)) (rg_ [(0, .slice (some ⟨g_, 0, none⟩) 0 c_)] ?_))
  rintro a A ⟨t0, -⟩
  have ZX5 := bX.size
  replace BW := BW.trans (bX.mono BW.size)
  clear bX
  refine wp_seq ?_
  refine wi_ A (h1_ t0) (rg_ [(4, .slice (some ⟨g_, 0, none⟩) 0 c_)] ?_)
  rintro a A ⟨t4, -⟩
  refine wp_ret ?_
  refine bodyPost_ret (results_tmp rfl _ _ _) A.2 ⟨_, ?_, FO, BW⟩
  show Ending.returned (a.eval (.tmp 4)) = _
  rw [t4]
set_option maxRecDepth 100000 in
set_option maxHeartbeats 4000000 in
/-- slices.Concat. -/
theorem pconcat (J : Nat) (x : Nat → Value) (ln : Nat → Nat) (gg : Nat → Nat → Nat) (F : Nat → Nat) (sl : Value) (V : World) (hL : LLX V sl J x ln gg) (hJ : J ≤ 1000) (hF : ∀ i, i < J → ∀ k, k < ln i → F (sumN ln i + k) = gg i k) (h0 : 0 < sumN ln J) (hSx : sumN ln J ≤ 140737488351232) :
    Calls Try.prog 22 #[sl] V fun e w' => ∃ r, e = .returned r ∧ w'.ownsRow V.heap.size 5 1 r (sumN ln J) (bytesL (sumN ln J) F) ∧ Below V.heap.size V w' := by
  have hsh : ∃ ao c, sl = .slice ao J c := by obtain ⟨a_, c_, e_, _⟩ := hL.shape; exact ⟨a_, c_, e_⟩
  go_enter Try.func22, Try.ntmps22
  refine wp_seq ?_
  refine wo_ 36 [(0, sl)] ?_
  rintro a A ⟨t0, -⟩
  refine wi_ A (h1_ t0) (rf_ [] (h1_ t0) ?_)
  rintro a A - ⟨t0, -⟩
  have BW : Below V.heap.size V V := Below.refl _ _
  have BB := BW
  refine wp_seq ?_
  refine wi_ A (h1_ t0) (rf_ [(3, .int .i64 ((0 : Nat) : Int))] (h1_ t0) ?_)
  rintro a A ⟨t3, -⟩ ⟨t0, -⟩
  refine wp_seq ?_
  refine wp_seq ?_
  refine wi_ A (h2_ t0 t3) (rv_ 1 (.int .i64 ((J : Nat) : Int)) (fun a ee => execLenLs (len := J) rfl (ee _) hsh) (rf_ [(9, sl), (10, .int .i64 ((J : Nat) : Int)), (11, .int .i64 ((0 : Nat) : Int))] (h2_ t0 t3) ?_))
  rintro a A ⟨t9, t10, t11, -⟩ ⟨t0, t3, -⟩
  refine wp_block ?_
  refine wp_loop (fun a W => ∃ (i : Nat), i ≤ J ∧ (a.tmps.size = 36 ∧ a.defers = []) ∧ a.eval (.tmp 0) = sl ∧ a.eval (.tmp 3) = .int .i64 ((sumN ln i : Nat) : Int) ∧ a.eval (.tmp 9) = sl ∧ a.eval (.tmp 10) = .int .i64 ((J : Nat) : Int) ∧ a.eval (.tmp 11) = .int .i64 ((i : Nat) : Int) ∧ Below V.heap.size V W) (fun a _ => J - (intOf (a.eval (.tmp 11))).toNat) ⟨0, Nat.zero_le _, A, t0, t3, t9, t10, t11, BB⟩ ?_
  clear A t0 t3 t9 t10 t11 BB a
  rintro a XL3 ⟨i, hi, A, t0, t3, t9, t10, t11, BB⟩
  have esi := t11
  refine wp_seq ?_
  refine wi_ A (h5_ t0 t3 t9 t10 t11) (rv_ 0 (.bool (decide (i < J))) (fun a ee => execLtW (p := i) (q := J) rfl (ee _) (ee _)) (rf_ [(12, .bool (decide (i < J)))] (h5_ t0 t3 t9 t10 t11) ?_))
  rintro a A ⟨t12, -⟩ ⟨t0, t3, t9, t10, t11, -⟩
  refine wp_seq ?_
  by_cases lti : i < J
  · rw [decide_eq_true lti] at t12
    refine wp_cond_true t12 ?_
    refine wp_skip ?_
    clear t12
    refine wp_seq ?_
    refine wp_block ?_
    obtain ⟨cb, co, cc, ec, hcb, hcc⟩ := hL.at (show 0 < J by omega)
    have cC : ∀ X, Below V.heap.size V X → X.cell? ⟨cb, co + i, none⟩ = some (x i) := fun X hX => by rw [cell_below hX hcb]; exact hcc i lti
    have hli := hL.lists i lti
    have hat := sumN_at (r := ln) lti
    refine wp_seq ?_
    refine wi_ A (h5_ t0 t3 t9 t10 t11) (rv_ 0 (.pointer (some ⟨cb, co + i, none⟩)) (fun a ee => Cf.execIdxL (k := i) rfl ((ee _).trans ec) (ee _) lti) (rv_ 1 (x i) (fun a ee => execLdL rfl (ee _) (cC XL3 BB)) (rf_ [(5, x i)] (h5_ t0 t3 t9 t10 t11) ?_)))
    rintro a A ⟨t5, -⟩ ⟨t0, t3, t9, t10, t11, -⟩
    refine wp_seq ?_
    refine wi_ A (h6_ t0 t3 t9 t10 t11 t5) (rv_ 2 (.int .i64 ((ln i : Nat) : Int)) (fun a ee => execLenV (len := ln i) rfl (ee _) (shp9 (hli.on BB))) (rv_ 3 (.int .i64 ((sumN ln i + ln i : Nat) : Int)) (fun a ee => execAd8 (p := sumN ln i) (q := ln i) rfl (ee _) (ee _) (by omega)) (rf_ [(3, .int .i64 ((sumN ln i + ln i : Nat) : Int))] (h4_ t0 t9 t10 t11) ?_)))
    rintro a A ⟨t3, -⟩ ⟨t0, t9, t10, t11, -⟩
    refine wp_seq ?_
    refine wi_ A (h5_ t0 t3 t9 t10 t11) (rv_ 1 (.bool false) (fun a ee => execDec (execLtW (p := sumN ln i + ln i) (q := 0) rfl (ee _) rfl) (decide_eq_false (by omega))) (rf_ [(20, .bool false)] (h5_ t0 t3 t9 t10 t11) ?_))
    rintro a A ⟨t20, -⟩ ⟨t0, t3, t9, t10, t11, -⟩
    refine wp_cond_false t20 ?_
    refine wp_skip ?_
    clear t20
    refine wi_ A (h5_ t0 t3 t9 t10 t11) (rv_ 0 (.int .i64 ((i + 1 : Nat) : Int)) (fun a ee => execAd8 (p := i) (q := 1) rfl (ee _) rfl (by omega)) (rf_ [(11, .int .i64 ((i + 1 : Nat) : Int))] (h4_ t0 t3 t9 t10) ?_))
    rintro a A ⟨t11, -⟩ ⟨t0, t3, t9, t10, -⟩
    exact ⟨⟨i + 1, lti, A, t0, t3, t9, t10, t11, BB⟩, by show J - (intOf (a.eval (.tmp 11))).toNat < J - (intOf (Act.eval _ (.tmp 11))).toNat; rw [t11, esi]; show J - (i + 1) < J - i; omega⟩
  · rw [decide_eq_false lti] at t12
    refine wp_cond_false t12 ?_
    refine wp_exit ?_
    first | with_reducible refine exit_in ?_ | with_reducible refine exit_then (exit_in ?_) | with_reducible refine exit_then (exit_then (exit_in ?_)) | refine exit_in ?_ | refine exit_then (exit_in ?_) | refine exit_then (exit_then (exit_in ?_))
    clear t12 esi
    have hiJ : i = J := by omega
    rw [hiJ] at t3
    clear t9 t10 t11
    clear hiJ lti hi
    refine wp_seq ?_
    refine wi_ A (h2_ t0 t3) (rc_ 1 (pgrow F (sumN ln J) XL3 h0 hSx) fun e X9 hh => ?_)
    obtain ⟨u_, he, hk, hb⟩ := hh
    refine ⟨_, he, ?_⟩
    have bQ : Below XL3.heap.size XL3 X9 := hb
    have FO : (X9.ownsRow V.heap.size 5 1 u_ (sumN ln 0) (bytesL (sumN ln 0) F)) := own_base hk (BB).size
    replace BB := BB.trans (bQ.mono BB.size)
    clear bQ
    refine rf_ [(6, u_)] (h1_ t0) ?_
    rintro a A ⟨t6, -⟩ ⟨t0, -⟩
    refine wp_seq ?_
    refine wp_seq ?_
    refine wi_ A (h2_ t0 t6) (rv_ 1 (.int .i64 ((J : Nat) : Int)) (fun a ee => execLenLs (len := J) rfl (ee _) hsh) (rf_ [(25, sl), (26, .int .i64 ((J : Nat) : Int)), (27, .int .i64 ((0 : Nat) : Int))] (h1_ t6) ?_))
    rintro a A ⟨t25, t26, t27, -⟩ ⟨t6, -⟩
    refine wp_block ?_
    refine wp_loop (fun a W => ∃ (i : Nat) (u : Value), i ≤ J ∧ (a.tmps.size = 36 ∧ a.defers = []) ∧ a.eval (.tmp 6) = u ∧ a.eval (.tmp 25) = sl ∧ a.eval (.tmp 26) = .int .i64 ((J : Nat) : Int) ∧ a.eval (.tmp 27) = .int .i64 ((i : Nat) : Int) ∧ Below V.heap.size V W ∧ (W.ownsRow V.heap.size 5 1 u (sumN ln i) (bytesL (sumN ln i) F))) (fun a _ => J - (intOf (a.eval (.tmp 27))).toNat) ⟨0, _, Nat.zero_le _, A, t6, t25, t26, t27, BB, FO⟩ ?_
    clear A t6 t25 t26 t27 BB FO a
    rintro a XL11 ⟨i, u, hi, A, t6, t25, t26, t27, BB, FO⟩
    have esi := t27
    refine wp_seq ?_
    refine wi_ A (h4_ t6 t25 t26 t27) (rv_ 0 (.bool (decide (i < J))) (fun a ee => execLtW (p := i) (q := J) rfl (ee _) (ee _)) (rf_ [(28, .bool (decide (i < J)))] (h4_ t6 t25 t26 t27) ?_))
    rintro a A ⟨t28, -⟩ ⟨t6, t25, t26, t27, -⟩
    refine wp_seq ?_
    by_cases lti : i < J
    · rw [decide_eq_true lti] at t28
      refine wp_cond_true t28 ?_
      refine wp_skip ?_
      clear t28
      refine wp_seq ?_
      refine wp_block ?_
      obtain ⟨cb, co, cc, ec, hcb, hcc⟩ := hL.at (show 0 < J by omega)
      have cC : ∀ X, Below V.heap.size V X → X.cell? ⟨cb, co + i, none⟩ = some (x i) := fun X hX => by rw [cell_below hX hcb]; exact hcc i lti
      have hli := hL.lists i lti
      have hat := sumN_at (r := ln) lti
      refine wp_seq ?_
      refine wi_ A (h4_ t6 t25 t26 t27) (rv_ 0 (.pointer (some ⟨cb, co + i, none⟩)) (fun a ee => Cf.execIdxL (k := i) rfl ((ee _).trans ec) (ee _) lti) (rv_ 1 (x i) (fun a ee => execLdL rfl (ee _) (cC XL11 BB)) (rf_ [(8, x i)] (h4_ t6 t25 t26 t27) ?_)))
      rintro a A ⟨t8, -⟩ ⟨t6, t25, t26, t27, -⟩
      refine wi_ A (h5_ t6 t25 t26 t27 t8) (rs_ 2 (fun a ee => ?_))
      refine stepAppN (n := sumN ln i) (m := ln i) (p := F) rfl rfl rfl (ee _) (ee _) FO (sliceN_cg (hli.on BB) (fun k hk => (hF i lti k hk).symm)) (hL.nils i lti) (by omega) (BB).size fun v_ X13 own' gr => ⟨_, ⟨_, rfl, rfl⟩, eqw ?_⟩
      obtain ⟨BB, FO2⟩ : Below V.heap.size V X13 ∧ (X13.ownsRow V.heap.size 5 1 v_ (sumN ln (i + 1)) (bytesL (sumN ln (i + 1)) F)) := ⟨(BB).grown gr (BB).size (fun k hk => (FO.lt k hk).1), own'⟩
      clear FO ee a
      refine rf_ [(6, v_)] (h3_ t25 t26 t27) ?_
      rintro a A ⟨t6, -⟩ ⟨t25, t26, t27, -⟩
      refine wi_ A (h4_ t6 t25 t26 t27) (rv_ 0 (.int .i64 ((i + 1 : Nat) : Int)) (fun a ee => execAd8 (p := i) (q := 1) rfl (ee _) rfl (by omega)) (rf_ [(27, .int .i64 ((i + 1 : Nat) : Int))] (h3_ t6 t25 t26) ?_))
      rintro a A ⟨t27, -⟩ ⟨t6, t25, t26, -⟩
      exact ⟨⟨i + 1, _, lti, A, t6, t25, t26, t27, BB, FO2⟩, by show J - (intOf (a.eval (.tmp 27))).toNat < J - (intOf (Act.eval _ (.tmp 27))).toNat; rw [t27, esi]; show J - (i + 1) < J - i; omega⟩
    · rw [decide_eq_false lti] at t28
      refine wp_cond_false t28 ?_
      refine wp_exit ?_
      first | with_reducible refine exit_in ?_ | with_reducible refine exit_then (exit_in ?_) | with_reducible refine exit_then (exit_then (exit_in ?_)) | refine exit_in ?_ | refine exit_then (exit_in ?_) | refine exit_then (exit_then (exit_in ?_))
      clear t28 esi
      have hiJ : i = J := by omega
      rw [hiJ] at FO
      clear t25 t26 t27
      refine wp_seq ?_
      refine wi_ A (h1_ t6) (rg_ [(2, u)] ?_)
      rintro a A ⟨t2, -⟩
      refine wp_ret ?_
      refine bodyPost_ret (results_tmp rfl _ _ _) A.2 ⟨_, ?_, FO, BB⟩
      show Ending.returned (a.eval (.tmp 2)) = _
      rw [t2]
end Go.Proofs.Ytcibogmghagpoaa.Dro
