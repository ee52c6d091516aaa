import Derived.Test.YtmfaapbhehhlpaaB9u
namespace Go.Proofs.Ytmfaapbhehhlpaa.Noi
open Go.RowKit Gf8 Aes By8 Cel Cf Tap Drw Prm
/- Package noise as it landed: Count. Written by tools/mkB9v.py. -/

/-- The closure of Count. -/
abbrev cF : FuncId := 23
theorem fn_below : Try.prog.funcs[cF]? = some Try.f23 := Try.func23
theorem or_add8 (a b : Nat) (hb : b < 256) : a * 256 ||| b = a * 256 + b := by
  have := Nat.shiftLeft_add_eq_or_of_lt (i := 8) hb a
  rw [Nat.shiftLeft_eq] at this
  exact this.symm
section
variable {o : Oper} {a : Act} {w : World}
theorem execShl8 {x : Operand} {n : Nat} (ho : o.op = .binOp .shl 3 x (.const (.int .u64 8)) 46) (hx : a.eval x = .int .i64 (n : Int)) (hn : n < 65536) : (execOp a.eval o).run Try.prog w = .ok (.value (.int .i64 ((n * 256 : Nat) : Int))) w := by
  have e : IntKind.i64.wrap ((n : Int) * 256) = (n : Int) * 256 := by simp [IntKind.wrap, IntKind.bits, IntKind.signed]; omega
  unfold execOp
  simp only [ho, hx]
  simp [go_sem, e]
theorem execOrI {x y : Operand} {p q : Nat} (ho : o.op = .binOp .or 3 x y 3) (hx : a.eval x = .int .i64 ((p * 256 : Nat) : Int)) (hy : a.eval y = .int .i64 (q : Int)) (hp : p < 256) (hq : q < 256) : (execOp a.eval o).run Try.prog w = .ok (.value (.int .i64 ((p * 256 + q : Nat) : Int))) w := by
  have e := Gf8.or_i64 (a := p * 256) (b := q) (by omega) (by omega)
  rw [or_add8 _ _ hq] at e
  unfold execOp
  simp only [ho, hx, hy]
  simp [go_sem] at e ⊢
  rw [e]
theorem execAlI (ho : o.op = .alloc 3) : (execOp a.eval o).run Try.prog w = .ok (.value (.pointer (some ⟨w.heap.size, 0, none⟩))) (w.alloc (.cells #[.int .i64 0] 3)) := by
  unfold execOp
  simp only [ho]
  simp [go_sem]
theorem execMkF {x : Operand} {g : Nat} {v : Value} (ho : o.op = .makeFunc (.func g) #[] #[x]) (hx : a.eval x = v) : (execOp a.eval o).run Try.prog w = .ok (.value (.func (.func g) #[] #[v])) w := by
  unfold execOp
  simp only [ho, List.map_toArray, List.map_cons, List.map_nil, hx]
  simp [go_sem]
theorem execLtD {x y : Operand} {p q : Int} (ho : o.op = .binOp .lss 3 x y 3) (hx : a.eval x = .int .i64 p) (hy : a.eval y = .int .i64 q) : (execOp a.eval o).run Try.prog w = .ok (.value (.bool (decide (p < q)))) w := by
  unfold execOp
  simp only [ho, hx, hy]
  simp [go_sem]
theorem execCallF {f : FuncId} {ts : Array TypeId} {fn : Func} {c x : Operand} {vx : Value} {lb : Array Value} (hf : Try.prog.funcs[f]? = some fn) (hname : (fn.name == "runtime.NumGoroutine") = false) (hb : fn.body.isSome = true) (ho : o.op = .call { callee := .value c, args := #[x], argTypes := ts }) (hc : a.eval c = .func (.func f) #[] lb) (hx : a.eval x = vx) : (execOp a.eval o).run Try.prog w = .ok (.enter f (#[vx] ++ lb)) w := by
  have h1 : fn.name ≠ "runtime.NumGoroutine" := by simpa using hname
  obtain ⟨b, hb⟩ := Option.isSome_iff_exists.1 hb
  have h2 : ∀ args, (callFunc f args).run Try.prog w = .ok (.enter f args) w := by intro args; simp [callFunc, hf, h1, hb]
  unfold execOp
  simp only [ho, resolve, invoke, Deferred.ofValue, Sem.run_bind, Sem.run_pure, Result.andThen_ok, List.map_toArray, List.map_cons, List.map_nil, hc, hx]
  simp [h2]
end
theorem stepCF {P : Program} {ops : Array Oper} {Q : Exit → Act → World → Prop} {K : Act → World → Prop} {j : Nat} {o : Oper} {a : Act} {w : World} {f : FuncId} {args : Array Value} {v : Value} (ho : ops[j]? = some o) (hw : Region.wanted o (yielded ops a.tmps) = true) (hv : (execOp a.eval o).run P w = .ok (.enter f args) w)
    (hc : Calls P f args w fun e w' => e = .returned v ∧ Below w.heap.size w w') (hK : ∀ W', Below w.heap.size w W' → K (a.put o.dst v) W') : wpOp P ops Q j K a w :=
  stepC ho hw hv hc fun _ w' h => ⟨v, h.1, hK w' h.2⟩
set_option maxRecDepth 100000 in
set_option maxHeartbeats 4000000 in
/-- The closure of Count. -/
theorem pbelow1 (u G : Nat) (z : Int) (V : World) (hG : V.heap[G]? = some (.cells #[.int .i64 ((u : Nat) : Int)] 3)) :
    Calls Try.prog 23 (#[.int .i64 z] ++ #[.pointer (some ⟨G, 0, none⟩)]) V fun e w' => e = .returned (.bool (decide (((u : Nat) : Int) < z))) ∧ Below V.heap.size V w' := by
  have hcu : V.cell? ⟨G, 0, none⟩ = some (.int .i64 ((u : Nat) : Int)) := by rw [cell_of_row _ _ _ _ _ _ hG]; rfl
  go_enter Try.func23, Try.ntmps23
  refine wp_seq ?_
  refine wo_ 7 [(0, .int .i64 z), (1, .pointer (some ⟨G, 0, none⟩))] ?_
  rintro a A ⟨t0, t1, -⟩
  refine wi_ A (h2_ t0 t1) (rf_ [] (h2_ t0 t1) ?_)
  rintro a A - ⟨t0, t1, -⟩
  have BW : Below V.heap.size V V := Below.refl _ _
  have BB := BW
  refine wp_seq ?_
  refine wi_ A (h2_ t0 t1) (rv_ 0 (.int .i64 ((u : Nat) : Int)) (fun a ee => execLd3 rfl (ee _) hcu) (rv_ 2 (.bool (decide (((u : Nat) : Int) < z))) (fun a ee => execLtD rfl (ee _) (ee _)) (rg_ [(3, .bool (decide (((u : Nat) : Int) < z)))] ?_)))
  rintro a A ⟨t3, -⟩
  refine wp_ret ?_
  refine bodyPost_ret (results_tmp rfl _ _ _) A.2 ⟨?_, BB⟩
  show Ending.returned (a.eval (.tmp 3)) = _
  rw [t3]
set_option maxRecDepth 100000 in
set_option maxHeartbeats 4000000 in
/-- The first number of the table that is above u. -/
theorem pindex (f : Nat → Int) (n i u G : Nat) (v : Value) (V : World) (FI : SliceI V v n f) (hG : V.heap[G]? = some (.cells #[.int .i64 ((u : Nat) : Int)] 3)) (hi : i < n) (hn : n ≤ 1000) (h1 : ∀ j, j < i → f j ≤ ((u : Nat) : Int)) (h2 : ((u : Nat) : Int) < f i) :
    Calls Try.prog 22 #[v, .func (.func cF) #[] #[.pointer (some ⟨G, 0, none⟩)]] V fun e w' => e = .returned (.int .i64 ((i : Nat) : Int)) ∧ Below V.heap.size V w' := by
  go_enter Try.func22, Try.ntmps22
  refine wp_seq ?_
  refine wo_ 19 [(0, v), (1, .func (.func cF) #[] #[.pointer (some ⟨G, 0, none⟩)])] ?_
  rintro a A ⟨t0, t1, -⟩
  refine wi_ A (h2_ t0 t1) (rf_ [] (h2_ t0 t1) ?_)
  rintro a A - ⟨t0, t1, -⟩
  have BW : Below V.heap.size V V := Below.refl _ _
  have BB := BW
  refine wp_seq ?_
  refine wp_seq ?_
  refine wi_ A (h2_ t0 t1) (rv_ 1 (.int .i64 ((n : Nat) : Int)) (fun a ee => execLenI (len := n) rfl (ee _) ((FI.on BB)).shp) (rf_ [(7, .int .i64 ((n : Nat) : Int)), (8, .int .i64 ((0 : Nat) : Int))] (h2_ t0 t1) ?_))
  rintro a A ⟨t7, t8, -⟩ ⟨t0, t1, -⟩
  obtain ⟨vvb, vvo, vvc, evv, hvvb, hvvc⟩ := open_sl FI (by omega)
  have cvv : ∀ k, k < n → ∀ X, Below V.heap.size V X → X.cell? ⟨vvb, vvo + k, none⟩ = some (.int .i64 ((f) k)) := fun k hk X hX => by rw [cell_below hX hvvb]; exact hvvc k hk
  refine wp_block ?_
  refine wp_loop (fun a W => ∃ (k : Nat), k ≤ i ∧ (a.tmps.size = 19 ∧ a.defers = []) ∧ a.eval (.tmp 0) = v ∧ a.eval (.tmp 1) = .func (.func cF) #[] #[.pointer (some ⟨G, 0, none⟩)] ∧ a.eval (.tmp 7) = .int .i64 ((n : Nat) : Int) ∧ a.eval (.tmp 8) = .int .i64 ((k : Nat) : Int) ∧ Below V.heap.size V W) (fun a _ => n - (intOf (a.eval (.tmp 8))).toNat) ⟨0, Nat.zero_le _, A, t0, t1, t7, t8, BB⟩ ?_
  clear A t0 t1 t7 t8 BB a
  rintro a XL ⟨k, hk, A, t0, t1, t7, t8, BB⟩
  have es := t8
  refine wp_seq ?_
  refine wi_ A (h4_ t0 t1 t7 t8) (rv_ 0 (.bool (decide (k < n))) (fun a ee => execLtW (p := k) (q := n) rfl (ee _) (ee _)) (rf_ [(9, .bool (decide (k < n)))] (h4_ t0 t1 t7 t8) ?_))
  rintro a A ⟨t9, -⟩ ⟨t0, t1, t7, t8, -⟩
  rw [decide_eq_true (show k < n by omega)] at t9
  refine wp_seq ?_
  refine wp_cond_true t9 ?_
  refine wp_skip ?_
  clear t9
  refine wp_seq ?_
  refine wp_block ?_
  refine wp_seq ?_
  refine wi_ A (h4_ t0 t1 t7 t8) (rf_ [(5, .int .i64 ((k : Nat) : Int))] (h4_ t0 t1 t7 t8) ?_)
  rintro a A ⟨t5, -⟩ ⟨t0, t1, t7, t8, -⟩
  refine wp_seq ?_
  refine wi_ A (h5_ t0 t1 t7 t8 t5) (rv_ 3 (.pointer (some ⟨vvb, vvo + k, none⟩)) (fun a ee => execIdxN (k := k) rfl ((ee _).trans evv) (ee _) (by omega)) (rv_ 4 (.int .i64 (f k)) (fun a ee => execLd3 rfl (ee _) (cvv k (by omega) XL BB)) (rs_ 5 (fun a ee => ?_))))
  refine stepCF rfl rfl (execCallF fn_below (by kernel_rfl) (by kernel_rfl) rfl (ee _) (ee _)) (pbelow1 u G (f k) XL (on9 hG BB)) fun X4 hb => ⟨_, ⟨_, rfl, rfl⟩, eqw ?_⟩
  have bQ : Below XL.heap.size XL X4 := hb
  replace BB := BB.trans (bQ.mono BB.size)
  clear bQ
  refine rf_ [(16, .bool (decide (((u : Nat) : Int) < f k)))] (h5_ t0 t1 t7 t8 t5) ?_
  rintro a A ⟨t16, -⟩ ⟨t0, t1, t7, t8, t5, -⟩
  by_cases hq : k = i
  · rw [decide_eq_true (show ((u : Nat) : Int) < f k by rw [hq]; exact h2)] at t16
    refine wp_cond_true t16 ?_
    clear t16
    refine wp_seq ?_
    refine wi_ A (h1_ t5) (rg_ [(4, .int .i64 ((k : Nat) : Int))] ?_)
    rintro a A ⟨t4, -⟩
    rw [hq] at t4
    refine wp_ret ?_
    repeat (first | with_reducible refine ret_in ?_ | with_reducible refine ret_then ?_)
    refine bodyPost_ret (results_tmp rfl _ _ _) A.2 ⟨?_, BB⟩
    show Ending.returned (a.eval (.tmp 4)) = _
    rw [t4]
  · rw [decide_eq_false (show ¬ ((u : Nat) : Int) < f k by have := h1 k (by omega); omega)] at t16
    refine wp_cond_false t16 ?_
    refine wp_skip ?_
    clear t16 t5
    refine wi_ A (h4_ t0 t1 t7 t8) (rv_ 0 (.int .i64 ((k + 1 : Nat) : Int)) (fun a ee => execAd8 (p := k) (q := 1) rfl (ee _) rfl (by omega)) (rf_ [(8, .int .i64 ((k + 1 : Nat) : Int))] (h3_ t0 t1 t7) ?_))
    rintro a A ⟨t8, -⟩ ⟨t0, t1, t7, -⟩
    exact ⟨⟨k + 1, by omega, A, t0, t1, t7, t8, BB⟩, by show n - (intOf (a.eval (.tmp 8))).toNat < n - (intOf (Act.eval _ (.tmp 8))).toNat; rw [t8, es]; show n - (k + 1) < n - k; omega⟩
theorem first_up {f : Nat → Nat} {m u : Nat} (h : f m = 65536) (hu : u < 65536) : ∃ i, i ≤ m ∧ (∀ j, j < i → f j ≤ u) ∧ u < f i := by
  have key : ∀ n, (∀ j, j < n → f j ≤ u) ∨ ∃ i, i < n ∧ (∀ j, j < i → f j ≤ u) ∧ u < f i := fun n => by
    induction n with
    | zero => exact Or.inl fun j hj => absurd hj (Nat.not_lt_zero _)
    | succ n ih =>
      rcases ih with ih | ⟨i, h1, h2, h3⟩
      · by_cases q : f n ≤ u
        · exact Or.inl fun j hj => if e : j = n then e ▸ q else ih j (by omega)
        · exact Or.inr ⟨n, by omega, ih, by omega⟩
      · exact Or.inr ⟨i, by omega, h2, h3⟩
  rcases key (m + 1) with q | ⟨i, h1, h2, h3⟩
  · have := q m (by omega)
    omega
  · exact ⟨i, by omega, h2, h3⟩
set_option maxRecDepth 100000 in
set_option maxHeartbeats 4000000 in
/-- The program's Count. -/
theorem pcount (p : Nat → Nat) (L : Nat) (na nd nm : Int) (pv : Value) (V : World) (FP : SliceN V pv L p) :
    Calls Try.prog 13 #[pv, .int .i64 na, .int .i64 nd, .int .i64 nm] V fun e w' => e = .returned (.tuple #[.int .i64 ((zl (ctE L na nd nm) (ctN p na nd nm) : Nat) : Int), .int .i64 ((ctE L na nd nm : Nat) : Int)]) ∧ Below V.heap.size V w' := by
  go_enter Try.func13, Try.ntmps13
  refine wp_seq ?_
  refine wo_ 39 [(0, pv), (1, .int .i64 na), (2, .int .i64 nd), (3, .int .i64 nm)] ?_
  rintro a A ⟨t0, t1, t2, t3, -⟩
  refine wi_ A (h4_ t0 t1 t2 t3) (rf_ [] (h4_ t0 t1 t2 t3) ?_)
  rintro a A - ⟨t0, t1, t2, t3, -⟩
  have BW : Below V.heap.size V V := Below.refl _ _
  refine wp_seq ?_
  refine wi_ A (h4_ t0 t1 t2 t3) (rc_ 3 (ptable na nd nm V) fun e X1 hh => ?_)
  obtain ⟨l_, he, hk, hb⟩ := hh
  refine ⟨_, he, ?_⟩
  have bQ : Below V.heap.size V X1 := hb
  have Fl : (SliceI X1 l_ (zl (tbE na nd nm) (nm.toNat + 1)) (tbF na nd nm)) := own_ints hk tb_fits
  have bX := bQ
  clear bQ
  refine rf_ [(10, l_), (11, .int .i64 ((tbE na nd nm : Nat) : Int))] (h1_ t0) ?_
  rintro a A ⟨t10, t11, -⟩ ⟨t0, -⟩
  replace FP := (FP.on bX)
  have ZX1 := bX.size
  replace BW := BW.trans (bX.mono BW.size)
  clear bX
  refine wp_seq ?_
  refine wp_seq ?_
  by_cases hin : fiN na nd nm
  · obtain ⟨c, rfl⟩ : ∃ c : Nat, na = c := ⟨na.toNat, by have := hin.1; omega⟩
    obtain ⟨d, rfl⟩ : ∃ d : Nat, nd = d := ⟨nd.toNat, by have := hin.2.2.1; omega⟩
    obtain ⟨m, rfl⟩ : ∃ m : Nat, nm = m := ⟨nm.toNat, by have := hin.2.2.2.2.1; omega⟩
    obtain ⟨g0, g1, g2, g3, g4, g5⟩ := id hin
    have had : c ≤ d := by omega
    have h1 : 1 ≤ d := by omega
    have h2 : d ≤ 1000 := by omega
    have hm : m ≤ 16 := by omega
    have hE : tbE ((c : Nat) : Int) ((d : Nat) : Int) ((m : Nat) : Int) = 0 := if_pos hin
    rw [hE, zl_ok] at Fl
    refine wi_ A (h3_ t0 t10 t11) (rv_ 1 (.bool false) (fun a ee => execDec (execNeE (p := tbE ((c : Nat) : Int) ((d : Nat) : Int) ((m : Nat) : Int)) (q := 0) rfl (ee _) rfl) (decide_eq_false (by omega))) (rf_ [(21, .bool false)] (h2_ t0 t10) ?_))
    rintro a A ⟨t21, -⟩ ⟨t0, t10, -⟩
    refine wp_cond_false t21 ?_
    refine wp_skip ?_
    clear t21
    refine wp_seq ?_
    refine wp_seq ?_
    by_cases hL18 : 18 ≤ L
    · refine wi_ A (h2_ t0 t10) (rv_ 1 (.int .i64 ((L : Nat) : Int)) (fun a ee => execLenV (len := L) rfl (ee _) (shp9 FP)) (rv_ 2 (.bool false) (fun a ee => execDec (execLtW (p := L) (q := 18) rfl (ee _) rfl) (decide_eq_false (by omega))) (rf_ [(25, .bool false)] (h2_ t0 t10) ?_)))
      rintro a A ⟨t25, -⟩ ⟨t0, t10, -⟩
      refine wp_cond_false t25 ?_
      refine wp_skip ?_
      clear t25
      have hC : ctE L ((c : Nat) : Int) ((d : Nat) : Int) ((m : Nat) : Int) = 0 := (if_pos hin).trans (if_pos hL18)
      rw [hC]
      have hp0 : p 0 < 256 := FP.bytes 0 (by omega)
      have hp1 : p 1 < 256 := FP.bytes 1 (by omega)
      obtain ⟨ppb, ppo, ppc, epp, hppb, hppc⟩ := open_slB FP (by omega)
      have cpp : ∀ k, k < L → ∀ X, Below X1.heap.size X1 X → X.cell? ⟨ppb, ppo + k, none⟩ = some (.int .u8 (((p) k : Nat) : Int)) := fun k hk X hX => by rw [cell_below hX hppb]; exact hppc k hk
      have BB : Below X1.heap.size X1 X1 := Below.refl _ _
      refine wp_seq ?_
      refine wj_ [0, 1, 2, 3, 4, 5, 6, 7, 8, 9, 10, 11] [10, 11] [2, 7] [11] A (h2_ t0 t10) (fun X6_0 bD => ?_)
      obtain ⟨G, egG⟩ : ∃ z_ : Nat, X6_0.heap.size = z_ := ⟨_, rfl⟩
      refine dw_ 1 (.pointer (some ⟨ppb, ppo + 0, none⟩)) (fun a X ee => execIdxB9 (k := 0) rfl ((ee _).trans epp) rfl (by omega)) (dv_ 2 (.int .u8 ((p 0 : Nat) : Int)) (fun a X ee hb => execLdB rfl (ee _) (cpp 0 (by omega) X (BB.trans (hb.mono BB.size)))) (dw_ 3 (.int .i64 ((p 0 : Nat) : Int)) (fun a X ee => execCv53 (p := p 0) rfl (ee _) (by omega)) (dw_ 4 (.int .i64 ((p 0 * 256 : Nat) : Int)) (fun a X ee => execShl8 (n := p 0) rfl (ee _) (by omega)) (dw_ 6 (.pointer (some ⟨ppb, ppo + 1, none⟩)) (fun a X ee => execIdxB9 (k := 1) rfl ((ee _).trans epp) rfl (by omega)) (dv_ 7 (.int .u8 ((p 1 : Nat) : Int)) (fun a X ee hb => execLdB rfl (ee _) (cpp 1 (by omega) X (BB.trans (hb.mono BB.size)))) (dw_ 8 (.int .i64 ((p 1 : Nat) : Int)) (fun a X ee => execCv53 (p := p 1) rfl (ee _) (by omega)) (dw_ 9 (.int .i64 ((p 0 * 256 + p 1 : Nat) : Int)) (fun a X ee => execOrI (p := p 0) (q := p 1) rfl (ee _) (ee _) hp0 hp1) (ds_ 10 (fun a ee => ?_)))))))))
      refine stepV rfl rfl (execAlI rfl) ⟨.pointer (some ⟨G, 0, none⟩), ⟨_, rfl, by subst egG; rfl⟩, fun X6_1 hX => ?_⟩
      have bQ : Below X6_0.heap.size X6_0 X6_1 := by subst hX egG; exact (belNew X6_0 _)
      have FG : (X6_1.heap[G]? = some (.cells #[.int .i64 0] 3)) := by subst hX egG; exact heapNew X6_0 _
      have FGe : (X1.heap.size ≤ G) := by subst hX egG; exact ((BB.trans (bD.mono BB.size))).size
      replace bD := bD.trans (bQ.mono bD.size)
      clear bQ hX egG ee a
      refine ⟨Or.inr bD, ?_⟩
      refine ds_ 11 (fun a ee => ?_)
      refine stepS rfl rfl (execStI9 rfl (ee _) (ee _) (by rw [cell_of_row _ _ _ _ _ _ FG]; rfl) (frozen4 FG)) ⟨_, ⟨_, rfl, rfl⟩, fun X6 hX => ?_⟩
      obtain ⟨BB, FG2⟩ : Below X1.heap.size X1 X6 ∧ (X6.heap[G]? = some (.cells #[.int .i64 ((p 0 * 256 + p 1 : Nat) : Int)] 3)) := by subst hX; exact ⟨((BB.trans (bD.mono BB.size))).setCell FGe _, (by rw [heap4 _ FG]; rfl)⟩
      clear bD FG hX ee a
      refine ⟨Or.inl rfl, ?_⟩
      refine dz_ [(12, .pointer (some ⟨G, 0, none⟩))] (h1_ t10) ?_
      rintro a A ⟨t12, -⟩ ⟨t10, -⟩
      have hlast : tbN c d m m = 65536 := tb_last
      obtain ⟨u, eu⟩ : ∃ u, p 0 * 256 + p 1 = u := ⟨_, rfl⟩
      rw [eu] at FG2
      have hu : u < 65536 := by omega
      obtain ⟨i, hi, hlo, hup⟩ := first_up hlast hu
      have hc : ctN p ((c : Nat) : Int) ((d : Nat) : Int) ((m : Nat) : Int) = i := ct_is (a := c) hi hlo hup eu
      rw [zl_ok, hc]
      have BW2 := BW.trans (BB.mono BW.size)
      refine wp_seq ?_
      refine wi_ A (h2_ t10 t12) (rv_ 1 (.func (.func cF) #[] #[.pointer (some ⟨G, 0, none⟩)]) (fun a ee => execMkF rfl (ee _)) (rc_ 2 (pindex (fun k => ((tbN c d m k : Nat) : Int)) (m + 1) i u G _ X6 (Fl.on BB) FG2 (by omega) (by omega) (fun j hj => by have := hlo j hj; show ((tbN c d m j : Nat) : Int) ≤ _; omega) (show ((u : Nat) : Int) < ((tbN c d m i : Nat) : Int) by omega)) (cb_ fun X7 bQ => ?_)))
      replace FG2 := (on9 FG2 bQ)
      replace BB := BB.trans (bQ.mono BB.size)
      clear bQ
      refine rg_ [(8, .int .i64 ((i : Nat) : Int)), (9, .int .i64 ((0 : Nat) : Int))] ?_
      rintro a A ⟨t8, t9, -⟩
      have BW3 := BW.trans (BB.mono BW.size)
      refine wp_ret ?_
      refine bodyPost_ret (results_tmp2 rfl _ _ _) A.2 ⟨?_, BW3⟩
      show Ending.returned (.tuple #[a.eval (.tmp 8), a.eval (.tmp 9)]) = _
      rw [t8, t9]
    · refine wi_ A (h2_ t0 t10) (rv_ 1 (.int .i64 ((L : Nat) : Int)) (fun a ee => execLenV (len := L) rfl (ee _) (shp9 FP)) (rv_ 2 (.bool true) (fun a ee => execDec (execLtW (p := L) (q := 18) rfl (ee _) rfl) (decide_eq_true (by omega))) (rg_ [(25, .bool true)] ?_)))
      rintro a A ⟨t25, -⟩
      refine wp_cond_true t25 ?_
      clear t25
      refine wp_seq ?_
      refine wi_ A h0_ (rg_ [(8, .int .i64 ((0 : Nat) : Int)), (9, .int .i64 ((3 : Nat) : Int))] ?_)
      rintro a A ⟨t8, t9, -⟩
      have hC : ctE L ((c : Nat) : Int) ((d : Nat) : Int) ((m : Nat) : Int) = 3 := (if_pos hin).trans (if_neg (by omega))
      rw [hC, zl_no (by decide)]
      refine wp_ret ?_
      repeat (first | with_reducible refine ret_in ?_ | with_reducible refine ret_then ?_)
      refine bodyPost_ret (results_tmp2 rfl _ _ _) A.2 ⟨?_, BW⟩
      show Ending.returned (.tuple #[a.eval (.tmp 8), a.eval (.tmp 9)]) = _
      rw [t8, t9]
  · have hE : tbE na nd nm = 2 := if_neg hin
    have hC : ctE L na nd nm = 2 := if_neg hin
    refine wi_ A (h3_ t0 t10 t11) (rv_ 1 (.bool true) (fun a ee => execDec (execNeE (p := tbE na nd nm) (q := 0) rfl (ee _) rfl) (decide_eq_true (by omega))) (rf_ [(21, .bool true)] (h1_ t11) ?_))
    rintro a A ⟨t21, -⟩ ⟨t11, -⟩
    refine wp_cond_true t21 ?_
    clear t21
    refine wp_seq ?_
    refine wi_ A (h1_ t11) (rg_ [(8, .int .i64 ((0 : Nat) : Int)), (9, .int .i64 ((tbE na nd nm : Nat) : Int))] ?_)
    rintro a A ⟨t8, t9, -⟩
    rw [hE] at t9
    rw [hC, zl_no (by decide)]
    refine wp_ret ?_
    repeat (first | with_reducible refine ret_in ?_ | with_reducible refine ret_then ?_)
    refine bodyPost_ret (results_tmp2 rfl _ _ _) A.2 ⟨?_, BW⟩
    show Ending.returned (.tuple #[a.eval (.tmp 8), a.eval (.tmp 9)]) = _
    rw [t8, t9]
end Go.Proofs.Ytmfaapbhehhlpaa.Noi
