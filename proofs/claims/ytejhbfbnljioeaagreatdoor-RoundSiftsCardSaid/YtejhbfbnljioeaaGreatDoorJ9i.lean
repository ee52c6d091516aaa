import Derived.Test.YtejhbfbnljioeaaGreatDoorJ9e
namespace Go.Proofs.YtejhbfbnljioeaaGreatDoor.Win
open Go.RowKit Gf8 Aes By8 Cel Cf
/- slices.Clone of tags, the program's copyOf, Open. Written by tools/mkJ9g.py. -/

section
variable {o : Oper} {a : Act} {w : World}
theorem execBoxEp {x : Operand} {z : Int} {v : Value} (ho : o.op = .box 70 x) (hx : a.eval x = .agg (epC z v)) : (execOp a.eval o).run Tryz.prog w = .ok (.value (.pointer (some ⟨w.heap.size, 0, none⟩))) (w.alloc (.cells (epC z v) 70)) := by
  unfold execOp
  simp only [ho, hx]
  simp [go_sem]
end
end Go.Proofs.YtejhbfbnljioeaaGreatDoor.Win

namespace Go.Proofs.YtejhbfbnljioeaaGreatDoor.Win
open Go.RowKit Gf8 Aes By8 Cel Cf
/- slices.Index, Contains of tags, IndexFunc, ContainsFunc of epochs, the program's Has. Written by tools/mkJ9i.py. -/

/-- The closure of Has. -/
abbrev hF : FuncId := 20
theorem fn_has : Tryz.prog.funcs[hF]? = some Tryz.f20 := Tryz.func20
theorem in_tgL {m i : Nat} {t : Nat → Nat → Nat} {x : Nat} (hi : i < m) (h : tv (t i) 16 = x) : x ∈ tgL m t := List.mem_map.2 ⟨i, List.mem_range.2 hi, h⟩
theorem nmem_tgL {m : Nat} {t : Nat → Nat → Nat} {x : Nat} (h : ∀ k, k < m → tv (t k) 16 ≠ x) : x ∉ tgL m t := fun q => by
  obtain ⟨k, hk, e⟩ := List.mem_map.1 q
  exact h k (List.mem_range.1 hk) e
theorem in_esL {n i : Nat} {nu : Nat → Int} {ln : Nat → Nat} {t : Nat → Nat → Nat → Nat} (hi : i < n) : (nu i, tgL (ln i) (t i)) ∈ esL n nu ln t := List.mem_map.2 ⟨i, List.mem_range.2 hi, rfl⟩
theorem nmem_all {n : Nat} {nu : Nat → Int} {ln : Nat → Nat} {t : Nat → Nat → Nat → Nat} {x : Nat} (h : ∀ k, k < n → x ∉ tgL (ln k) (t k)) : x ∉ wAll (esL n nu ln t) := fun q => by
  obtain ⟨y, hy, e⟩ := mem_all.1 q
  obtain ⟨k, hk, rfl⟩ := List.mem_map.1 hy
  exact h k (List.mem_range.1 hk) e
section
variable {o : Oper} {a : Act} {w : World}
theorem execMkF {x : Operand} {g : Nat} {v : Value} (ho : o.op = .makeFunc (.func g) #[] #[x]) (hx : a.eval x = v) : (execOp a.eval o).run Tryz.prog w = .ok (.value (.func (.func g) #[] #[v])) w := by
  unfold execOp
  simp only [ho, List.map_toArray, List.map_cons, List.map_nil, hx]
  simp [go_sem]
theorem execCallF {f : FuncId} {ts : Array TypeId} {fn : Func} {c x : Operand} {vx : Value} {lb : Array Value} (hf : Tryz.prog.funcs[f]? = some fn) (hname : (fn.name == "runtime.NumGoroutine") = false) (hb : fn.body.isSome = true) (ho : o.op = .call { callee := .value c, args := #[x], argTypes := ts }) (hc : a.eval c = .func (.func f) #[] lb) (hx : a.eval x = vx) : (execOp a.eval o).run Tryz.prog w = .ok (.enter f (#[vx] ++ lb)) w := by
  have h1 : fn.name ≠ "runtime.NumGoroutine" := by simpa using hname
  obtain ⟨b, hb⟩ := Option.isSome_iff_exists.1 hb
  have h2 : ∀ args, (callFunc f args).run Tryz.prog w = .ok (.enter f args) w := by intro args; simp [callFunc, hf, h1, hb]
  unfold execOp
  simp only [ho, resolve, invoke, Deferred.ofValue, Sem.run_bind, Sem.run_pure, Result.andThen_ok, List.map_toArray, List.map_cons, List.map_nil, hc, hx]
  simp [h2]
end
set_option maxRecDepth 100000 in
set_option maxHeartbeats 4000000 in
/-- slices.Index of tags. -/
theorem pindex16 (v : Value) (m : Nat) (t : Nat → Nat → Nat) (f : Nat → Nat) (V : World) (hTg : Tgs V v m t) (hm : m < 9223372036854775808) (hfb : ∀ i, i < 16 → f i < 256) :
    Calls Tryz.prog 37 #[v, .agg (bA 16 f)] V fun e w' => (∃ z : Int, e = .returned (.int .i64 z) ∧ (0 ≤ z ↔ tv f 16 ∈ tgL m t)) ∧ Below V.heap.size V w' := by
  go_enter Tryz.func37, Tryz.ntmps37
  refine wo_ 19 [(0, v), (1, .agg (bA 16 f))] ?_
  rintro a A ⟨t0, t1, -⟩
  have BW : Below V.heap.size V V := Below.refl _ _
  refine wp_seq ?_
  obtain ⟨g3, egg3⟩ : ∃ z_ : Nat, V.heap.size = z_ := ⟨_, rfl⟩
  refine wi_ A (h2_ t0 t1) (rs_ 0 (fun a ee => ?_))
  refine stepV rfl rfl (execBox16 rfl (ee _)) ⟨.pointer (some ⟨g3, 0, none⟩), ⟨_, rfl, by subst egg3; rfl⟩, fun X0 hX => ?_⟩
  have bQ : Below V.heap.size V X0 := by subst hX egg3; exact (belNew V _)
  have Fg3 : (X0.heap[g3]? = some (.cells (bA 16 f) 44)) := by subst hX egg3; exact heapNew V _
  have bX := bQ
  clear bQ hX egg3 ee a
  refine rf_ [(3, .pointer (some ⟨g3, 0, none⟩))] (h1_ t0) ?_
  rintro a A ⟨t3, -⟩ ⟨t0, -⟩
  replace hTg := (hTg.on bX)
  have ZX0 := bX.size
  replace BW := BW.trans (bX.mono BW.size)
  clear bX
  have BB : Below X0.heap.size X0 X0 := Below.refl _ _
  refine wp_seq ?_
  refine wp_seq ?_
  refine wi_ A (h2_ t0 t3) (rv_ 1 (.int .i64 ((m : Nat) : Int)) (fun a ee => execLenTs (len := m) rfl (ee _) hTg.shp) (rf_ [(7, .int .i64 ((m : Nat) : Int)), (8, .int .i64 ((0 : Nat) : Int))] (h2_ t0 t3) ?_))
  rintro a A ⟨t7, t8, -⟩ ⟨t0, t3, -⟩
  refine wp_block ?_
  refine wp_loop (fun a W => ∃ (i : Nat), i ≤ m ∧ (∀ k_, k_ < i → tv (t k_) 16 ≠ tv f 16) ∧ (a.tmps.size = 19 ∧ a.defers = []) ∧ a.eval (.tmp 0) = v ∧ a.eval (.tmp 3) = .pointer (some ⟨g3, 0, none⟩) ∧ a.eval (.tmp 7) = .int .i64 ((m : Nat) : Int) ∧ a.eval (.tmp 8) = .int .i64 ((i : Nat) : Int) ∧ Below X0.heap.size X0 W) (fun a _ => m - (intOf (a.eval (.tmp 8))).toNat) ⟨0, Nat.zero_le _, fun k_ h => absurd h (Nat.not_lt_zero k_), A, t0, t3, t7, t8, BB⟩ ?_
  clear A t0 t3 t7 t8 BB a
  rintro a XL2 ⟨i, hi, hno, A, t0, t3, t7, t8, BB⟩
  have esi := t8
  refine wp_seq ?_
  refine wi_ A (h4_ t0 t3 t7 t8) (rv_ 0 (.bool (decide (i < m))) (fun a ee => execLtW (p := i) (q := m) rfl (ee _) (ee _)) (rf_ [(9, .bool (decide (i < m)))] (h4_ t0 t3 t7 t8) ?_))
  rintro a A ⟨t9, -⟩ ⟨t0, t3, t7, t8, -⟩
  refine wp_seq ?_
  by_cases lti : i < m
  · rw [decide_eq_true lti] at t9
    refine wp_cond_true t9 ?_
    refine wp_skip ?_
    clear t9
    refine wp_seq ?_
    refine wp_block ?_
    obtain ⟨tb, to_, tc, et_, htb, htc⟩ := hTg.at (by omega)
    have cT : ∀ X, Below X0.heap.size X0 X → ∀ j_, j_ < 16 → X.cell? ⟨tb, to_ + i * 16 + j_, none⟩ = some (.int .u8 ((t i j_ : Nat) : Int)) := fun X hX j_ hj_ => by rw [cell_below hX htb]; exact htc i lti j_ hj_
    refine wp_seq ?_
    refine wi_ A (h4_ t0 t3 t7 t8) (rf_ [(5, .int .i64 ((i : Nat) : Int))] (h4_ t0 t3 t7 t8) ?_)
    rintro a A ⟨t5, -⟩ ⟨t0, t3, t7, t8, -⟩
    refine wp_seq ?_
    by_cases hq_ : eqB 16 f (t i) = true
    · have he_ : tv (t i) 16 = tv f 16 := by have q_ := of_decide_eq_true ((eqB_tv hfb (hTg.byt i lti)).symm.trans hq_); exact q_.symm
      refine wj_ [0, 1, 2, 3, 4, 5] [] [0, 4] [] A (h5_ t0 t3 t7 t8 t5) (fun X4 bD => ?_)
      refine dv_ 0 (.agg (bA 16 f)) (fun a X ee hb => execLdT rfl (ee _) (fun j_ hj_ => at16 (on9 Fg3 (BB.trans (hb.mono BB.size))) hj_)) (dw_ 3 (.pointer (some ⟨tb, to_ + i * 16, none⟩)) (fun a X ee => execIdxTs (k := i) rfl ((ee _).trans et_) (ee _) lti) (dv_ 4 (.agg (bA 16 (t i))) (fun a X ee hb => execLdT rfl (ee _) (fun j_ hj_ => cT X (BB.trans (hb.mono BB.size)) j_ hj_)) (dw_ 5 (.bool true) (fun a X ee => execeql16t rfl (ee _) (ee _) hq_) (dz_ [(16, .bool true)] (h5_ t0 t3 t7 t8 t5) ?_))))
      rintro a A ⟨t16, -⟩ ⟨t0, t3, t7, t8, t5, -⟩
      replace BB := BB.trans (bD.mono BB.size)
      clear bD
      refine wp_cond_true t16 ?_
      clear t16
      refine wp_seq ?_
      refine wi_ A (h5_ t0 t3 t7 t8 t5) (rg_ [(4, .int .i64 ((i : Nat) : Int))] ?_)
      rintro a A ⟨t4, -⟩
      have BW2 := BW.trans (BB.mono BW.size)
      refine wp_ret ?_
      repeat (first | with_reducible refine ret_in ?_ | with_reducible refine ret_then ?_)
      refine bodyPost_ret (results_tmp rfl _ _ _) A.2 ⟨⟨((i : Nat) : Int), ?_, ⟨fun _ => in_tgL lti he_, fun _ => by omega⟩⟩, BW2⟩
      show Ending.returned (a.eval (.tmp 4)) = _
      rw [t4]
    · have he_ : tv (t i) 16 ≠ tv f 16 := fun q_ => hq_ ((eqB_tv hfb (hTg.byt i lti)).trans (decide_eq_true q_.symm))
      refine wj_ [0, 1, 2, 3, 4, 5] [] [0, 4] [] A (h5_ t0 t3 t7 t8 t5) (fun X4 bD => ?_)
      refine dv_ 0 (.agg (bA 16 f)) (fun a X ee hb => execLdT rfl (ee _) (fun j_ hj_ => at16 (on9 Fg3 (BB.trans (hb.mono BB.size))) hj_)) (dw_ 3 (.pointer (some ⟨tb, to_ + i * 16, none⟩)) (fun a X ee => execIdxTs (k := i) rfl ((ee _).trans et_) (ee _) lti) (dv_ 4 (.agg (bA 16 (t i))) (fun a X ee hb => execLdT rfl (ee _) (fun j_ hj_ => cT X (BB.trans (hb.mono BB.size)) j_ hj_)) (dw_ 5 (.bool false) (fun a X ee => execeql16f rfl (ee _) (ee _) (by simpa using hq_)) (dz_ [(16, .bool false)] (h5_ t0 t3 t7 t8 t5) ?_))))
      rintro a A ⟨t16, -⟩ ⟨t0, t3, t7, t8, t5, -⟩
      replace BB := BB.trans (bD.mono BB.size)
      clear bD
      refine wp_cond_false t16 ?_
      refine wp_skip ?_
      clear t16
      refine wi_ A (h5_ t0 t3 t7 t8 t5) (rv_ 0 (.int .i64 ((i + 1 : Nat) : Int)) (fun a ee => execAd8 (p := i) (q := 1) rfl (ee _) rfl (by omega)) (rf_ [(8, .int .i64 ((i + 1 : Nat) : Int))] (h3_ t0 t3 t7) ?_))
      rintro a A ⟨t8, -⟩ ⟨t0, t3, t7, -⟩
      exact ⟨⟨i + 1, lti, fun k_ h => by rcases Nat.lt_or_eq_of_le (Nat.le_of_lt_succ h) with h_ | h_; exact hno k_ h_; exact h_ ▸ he_, A, t0, t3, t7, t8, BB⟩, by show m - (intOf (a.eval (.tmp 8))).toNat < m - (intOf (Act.eval _ (.tmp 8))).toNat; rw [t8, esi]; show m - (i + 1) < m - i; omega⟩
  · rw [decide_eq_false lti] at t9
    refine wp_cond_false t9 ?_
    refine wp_exit ?_
    first | with_reducible refine exit_in ?_ | with_reducible refine exit_then (exit_in ?_) | with_reducible refine exit_then (exit_then (exit_in ?_)) | refine exit_in ?_ | refine exit_then (exit_in ?_) | refine exit_then (exit_then (exit_in ?_))
    clear t9 esi
    have ein : i = m := by omega
    rw [ein] at hno
    have BW2 := BW.trans (BB.mono BW.size)
    refine wp_seq ?_
    refine wi_ A (h4_ t0 t3 t7 t8) (rg_ [(4, .int .i64 (-1))] ?_)
    rintro a A ⟨t4, -⟩
    refine wp_ret ?_
    refine bodyPost_ret (results_tmp rfl _ _ _) A.2 ⟨⟨-1, ?_, ⟨fun h_ => absurd h_ (by decide), fun h_ => absurd h_ (nmem_tgL hno)⟩⟩, BW2⟩
    show Ending.returned (a.eval (.tmp 4)) = _
    rw [t4]
set_option maxRecDepth 100000 in
set_option maxHeartbeats 4000000 in
/-- slices.Contains of tags. -/
theorem pcont16 (v : Value) (m : Nat) (t : Nat → Nat → Nat) (f : Nat → Nat) (V : World) (hTg : Tgs V v m t) (hm : m < 9223372036854775808) (hfb : ∀ i, i < 16 → f i < 256) :
    Calls Tryz.prog 21 #[v, .agg (bA 16 f)] V fun e w' => e = .returned (.bool (decide (tv f 16 ∈ tgL m t))) ∧ Below V.heap.size V w' := by
  go_enter Tryz.func21, Tryz.ntmps21
  refine wo_ 9 [(0, v), (1, .agg (bA 16 f))] ?_
  rintro a A ⟨t0, t1, -⟩
  have BW : Below V.heap.size V V := Below.refl _ _
  refine wp_seq ?_
  obtain ⟨g3, egg3⟩ : ∃ z_ : Nat, V.heap.size = z_ := ⟨_, rfl⟩
  refine wi_ A (h2_ t0 t1) (rs_ 0 (fun a ee => ?_))
  refine stepV rfl rfl (execBox16 rfl (ee _)) ⟨.pointer (some ⟨g3, 0, none⟩), ⟨_, rfl, by subst egg3; rfl⟩, fun X0 hX => ?_⟩
  have bQ : Below V.heap.size V X0 := by subst hX egg3; exact (belNew V _)
  have Fg3 : (X0.heap[g3]? = some (.cells (bA 16 f) 44)) := by subst hX egg3; exact heapNew V _
  have bX := bQ
  clear bQ hX egg3 ee a
  refine rf_ [(3, .pointer (some ⟨g3, 0, none⟩))] (h1_ t0) ?_
  rintro a A ⟨t3, -⟩ ⟨t0, -⟩
  replace hTg := (hTg.on bX)
  have ZX0 := bX.size
  replace BW := BW.trans (bX.mono BW.size)
  clear bX
  have BB : Below X0.heap.size X0 X0 := Below.refl _ _
  refine wp_seq ?_
  refine wi_ A (h2_ t0 t3) (rv_ 1 (.agg (bA 16 f)) (fun a ee => execLdT rfl (ee _) (fun j_ hj_ => at16 (on9 Fg3 BB) hj_)) (rc_ 2 (pindex16 v m t f X0 (hTg.on BB) hm hfb) fun e X1 hh => ?_))
  obtain ⟨⟨z7, he, hk⟩, hb⟩ := hh
  refine ⟨_, he, ?_⟩
  have bQ : Below X0.heap.size X0 X1 := hb
  have Fz : (0 ≤ z7 ↔ tv f 16 ∈ tgL m t) := hk
  replace BB := BB.trans (bQ.mono BB.size)
  clear bQ
  refine rv_ 3 (.bool (decide (z7 ≥ 0))) (fun a ee => exIgeq3 (p := z7) (q := 0) rfl (ee _) rfl) (rg_ [(4, .bool (decide (z7 ≥ 0)))] ?_)
  rintro a A ⟨t4, -⟩
  have BW2 := BW.trans (BB.mono BW.size)
  refine wp_ret ?_
  refine bodyPost_ret (results_tmp rfl _ _ _) A.2 ⟨?_, BW2⟩
  show Ending.returned (a.eval (.tmp 4)) = _
  rw [t4]
  congr 2
  exact decide_eq_decide.2 Fz
set_option maxRecDepth 100000 in
set_option maxHeartbeats 4000000 in
/-- The closure of Has. -/
theorem phas1 (z : Int) (v : Value) (m : Nat) (t : Nat → Nat → Nat) (f : Nat → Nat) (G : Nat) (hfb : ∀ i, i < 16 → f i < 256) (V : World) (hTg : Tgs V v m t) (hm : m < 9223372036854775808) (hG : V.heap[G]? = some (.cells (bA 16 f) 44)) :
    Calls Tryz.prog 20 (#[.agg (epC z v)] ++ #[.pointer (some ⟨G, 0, none⟩)]) V fun e w' => e = .returned (.bool (decide (tv f 16 ∈ tgL m t))) ∧ Below V.heap.size V w' := by
  go_enter Tryz.func20, Tryz.ntmps20
  refine wo_ 8 [(0, .agg (epC z v)), (1, .pointer (some ⟨G, 0, none⟩))] ?_
  rintro a A ⟨t0, t1, -⟩
  have BW : Below V.heap.size V V := Below.refl _ _
  refine wp_seq ?_
  obtain ⟨g2, egg2⟩ : ∃ z_ : Nat, V.heap.size = z_ := ⟨_, rfl⟩
  refine wi_ A (h2_ t0 t1) (rs_ 0 (fun a ee => ?_))
  refine stepV rfl rfl (execBoxEp rfl (ee _)) ⟨.pointer (some ⟨g2, 0, none⟩), ⟨_, rfl, by subst egg2; rfl⟩, fun X0 hX => ?_⟩
  have bQ : Below V.heap.size V X0 := by subst hX egg2; exact (belNew V _)
  have Fb : (X0.heap[g2]? = some (.cells (epC z v) 70)) := by subst hX egg2; exact heapNew V _
  have bX := bQ
  clear bQ hX egg2 ee a
  refine rf_ [(2, .pointer (some ⟨g2, 0, none⟩))] (h1_ t1) ?_
  rintro a A ⟨t2, -⟩ ⟨t1, -⟩
  replace hTg := (hTg.on bX)
  replace hG := (on9 hG bX)
  have ZX0 := bX.size
  replace BW := BW.trans (bX.mono BW.size)
  clear bX
  have BB : Below X0.heap.size X0 X0 := Below.refl _ _
  refine wp_seq ?_
  refine wi_ A (h2_ t1 t2) (rv_ 0 (.pointer (some ⟨g2, 0 + 1, none⟩)) (fun a ee => execFldE1 rfl (ee _)) (rv_ 1 (v) (fun a ee => execLdTs rfl (ee _) (epC_1 (on9 Fb BB))) (rv_ 2 (.agg (bA 16 f)) (fun a ee => execLdT rfl (ee _) (fun j_ hj_ => at16 (on9 hG BB) hj_)) (rc_ 3 (pcont16 v m t f X0 (hTg.on BB) hm hfb) (cb_ fun X1 bQ => ?_)))))
  replace BB := BB.trans (bQ.mono BB.size)
  clear bQ
  refine rg_ [(3, .bool (decide (tv f 16 ∈ tgL m t)))] ?_
  rintro a A ⟨t3, -⟩
  have BW2 := BW.trans (BB.mono BW.size)
  refine wp_ret ?_
  refine bodyPost_ret (results_tmp rfl _ _ _) A.2 ⟨?_, BW2⟩
  show Ending.returned (a.eval (.tmp 3)) = _
  rw [t3]
set_option maxRecDepth 100000 in
set_option maxHeartbeats 4000000 in
/-- slices.IndexFunc of epochs by Has. -/
theorem pindexF (ev : Value) (n : Nat) (nu : Nat → Int) (tw : Nat → Value) (ln : Nat → Nat) (t : Nat → Nat → Nat → Nat) (f : Nat → Nat) (G : Nat) (hfb : ∀ i, i < 16 → f i < 256) (V : World) (hE : Eps V ev n nu tw ln t) (hn : n < 9223372036854775808) (hl : ∀ j, j < n → ln j ≤ 8796093022208) (hG : V.heap[G]? = some (.cells (bA 16 f) 44)) :
    Calls Tryz.prog 36 #[ev, .func (.func hF) #[] #[.pointer (some ⟨G, 0, none⟩)]] V fun e w' => (∃ z : Int, e = .returned (.int .i64 z) ∧ (0 ≤ z ↔ tv f 16 ∈ wAll (esL n nu ln t))) ∧ Below V.heap.size V w' := by
  go_enter Tryz.func36, Tryz.ntmps36
  refine wo_ 19 [(0, ev), (1, .func (.func hF) #[] #[.pointer (some ⟨G, 0, none⟩)])] ?_
  rintro a A ⟨t0, t1, -⟩
  have BW : Below V.heap.size V V := Below.refl _ _
  have BB : Below V.heap.size V V := Below.refl _ _
  refine wp_seq ?_
  refine wi_ A (h2_ t0 t1) (rf_ [] (h2_ t0 t1) ?_)
  rintro a A - ⟨t0, t1, -⟩
  refine wp_seq ?_
  refine wp_seq ?_
  refine wi_ A (h2_ t0 t1) (rv_ 1 (.int .i64 ((n : Nat) : Int)) (fun a ee => execLenEs (len := n) rfl (ee _) hE.shp) (rf_ [(7, .int .i64 ((n : Nat) : Int)), (8, .int .i64 ((0 : Nat) : Int))] (h2_ t0 t1) ?_))
  rintro a A ⟨t7, t8, -⟩ ⟨t0, t1, -⟩
  refine wp_block ?_
  refine wp_loop (fun a W => ∃ (i : Nat), i ≤ n ∧ (∀ k_, k_ < i → tv f 16 ∉ tgL (ln k_) (t k_)) ∧ (a.tmps.size = 19 ∧ a.defers = []) ∧ a.eval (.tmp 0) = ev ∧ a.eval (.tmp 1) = .func (.func hF) #[] #[.pointer (some ⟨G, 0, none⟩)] ∧ a.eval (.tmp 7) = .int .i64 ((n : Nat) : Int) ∧ a.eval (.tmp 8) = .int .i64 ((i : Nat) : Int) ∧ Below V.heap.size V W) (fun a _ => n - (intOf (a.eval (.tmp 8))).toNat) ⟨0, Nat.zero_le _, fun k_ h => absurd h (Nat.not_lt_zero k_), A, t0, t1, t7, t8, BB⟩ ?_
  clear A t0 t1 t7 t8 BB a
  rintro a XL2 ⟨i, hi, hno, A, t0, t1, t7, t8, BB⟩
  have esi := t8
  refine wp_seq ?_
  refine wi_ A (h4_ t0 t1 t7 t8) (rv_ 0 (.bool (decide (i < n))) (fun a ee => execLtW (p := i) (q := n) rfl (ee _) (ee _)) (rf_ [(9, .bool (decide (i < n)))] (h4_ t0 t1 t7 t8) ?_))
  rintro a A ⟨t9, -⟩ ⟨t0, t1, t7, t8, -⟩
  refine wp_seq ?_
  by_cases lti : i < n
  · rw [decide_eq_true lti] at t9
    refine wp_cond_true t9 ?_
    refine wp_skip ?_
    clear t9
    refine wp_seq ?_
    refine wp_block ?_
    have hT := hE.lists i lti
    obtain ⟨eb, eo, ec, ee_, heb, hec⟩ := hE.at (show 0 < n by omega)
    have cE : ∀ X, Below V.heap.size V X → X.cell? ⟨eb, eo + i * 2 + 1, none⟩ = some (tw i) := fun X hX => by rw [cell_below hX heb]; exact (hec i lti).2
    have cN : ∀ X, Below V.heap.size V X → X.cell? ⟨eb, eo + i * 2 + 0, none⟩ = some (.int .i64 (nu i)) := fun X hX => by rw [cell_below hX heb]; exact (hec i lti).1
    have hln := hl i lti
    refine wp_seq ?_
    refine wi_ A (h4_ t0 t1 t7 t8) (rf_ [(5, .int .i64 ((i : Nat) : Int))] (h4_ t0 t1 t7 t8) ?_)
    rintro a A ⟨t5, -⟩ ⟨t0, t1, t7, t8, -⟩
    refine wp_seq ?_
    by_cases hq_ : tv f 16 ∈ tgL (ln i) (t i)
    · refine wp_region_sq (σ := Unit) 19 [(0, 11), (1, 12), (2, 13), (3, 14), (4, 15), (5, 16)] (fun j_ s X => match j_ with | 0 => Below V.heap.size V X | 1 => Below V.heap.size V X | 2 => Below V.heap.size V X | 3 => Below V.heap.size V X | 4 => Below V.heap.size V X | 5 => Below V.heap.size V X | _ => Below V.heap.size V X) (fun s => fun i_ => match i_ with | 0 => .func (.func hF) #[] #[.pointer (some ⟨G, 0, none⟩)] | 1 => ev | 2 => .int .i64 ((i : Nat) : Int) | 3 => .pointer (some ⟨eb, eo + i * 2, none⟩) | 4 => .agg (epC (nu i) (tw i)) | 5 => .bool true | _ => undef) () A.1 (by kernel_rfl) (by decide) (by decide) (BB) ?_ ?_
      · intro i_ hi_ s a X hf hv hn hS
        match i_, hi_ with
        | 0, _ => exact stepV rfl rfl (execMvB rfl ((hf 1 (by decide)).trans t1)) ⟨s, ⟨_, rfl, rfl⟩, hS, fun _ _ => rfl⟩
        | 1, _ => exact stepV rfl rfl (execMvB rfl ((hf 0 (by decide)).trans t0)) ⟨s, ⟨_, rfl, rfl⟩, hS, fun _ _ => rfl⟩
        | 2, _ => exact stepV rfl rfl (execMvB rfl ((hf 5 (by decide)).trans t5)) ⟨s, ⟨_, rfl, rfl⟩, hS, fun _ _ => rfl⟩
        | 3, _ => exact stepV rfl rfl (execIdxEs (k := i) rfl ((hv 1 (by decide) _ rfl _ rfl).trans ee_) (hv 2 (by decide) _ rfl _ rfl) lti) ⟨s, ⟨_, rfl, rfl⟩, hS, fun _ _ => rfl⟩
        | 4, _ => exact stepV rfl rfl (execLdEp rfl (hv 3 (by decide) _ rfl _ rfl) (cN X hS) (cE X hS)) ⟨s, ⟨_, rfl, rfl⟩, hS, fun _ _ => rfl⟩
        | 5, _ =>
          refine stepC rfl rfl (execCallF fn_has (by kernel_rfl) (by kernel_rfl) rfl (hv 0 (by decide) _ rfl _ rfl) (hv 4 (by decide) _ rfl _ rfl)) (phas1 (nu i) (tw i) (ln i) (t i) f G hfb X (hT.on hS) (by omega) (on9 hG hS)) fun e w' hh => ?_
          obtain ⟨he, hb⟩ := hh
          rw [decide_eq_true hq_] at he
          refine ⟨_, he, s, ⟨_, rfl, rfl⟩, (hS).trans ((hb).mono (hS).size), fun i hi => ?_⟩
          match i, hi with
          | 0, _ => rfl
          | 1, _ => rfl
          | 2, _ => rfl
          | 3, _ => rfl
          | 4, _ => rfl
          | n_ + 5, h_ => omega
        | k_ + 6, h_ => exact absurd h_ (by simp)
      rintro _ a X4 h1 h2 h3 h4 hS
      clear BB
      replace hS : Below V.heap.size V X4 := hS
      have BB := hS
      clear hS
      replace t0 := (h3 0 (by decide)).trans t0
      replace t1 := (h3 1 (by decide)).trans t1
      replace t7 := (h3 7 (by decide)).trans t7
      replace t8 := (h3 8 (by decide)).trans t8
      replace t5 := (h3 5 (by decide)).trans t5
      have t16 : a.eval (.tmp 16) = .bool true := h4 5 _ rfl _ rfl
      replace A := (⟨h1, h2.trans A.2⟩ : a.tmps.size = 19 ∧ a.defers = [])
      clear h1 h2 h3 h4
      refine wp_cond_true t16 ?_
      clear t16
      refine wp_seq ?_
      refine wi_ A (h5_ t0 t1 t7 t8 t5) (rg_ [(4, .int .i64 ((i : Nat) : Int))] ?_)
      rintro a A ⟨t4, -⟩
      have BW2 := BW.trans (BB.mono BW.size)
      refine wp_ret ?_
      repeat (first | with_reducible refine ret_in ?_ | with_reducible refine ret_then ?_)
      refine bodyPost_ret (results_tmp rfl _ _ _) A.2 ⟨⟨((i : Nat) : Int), ?_, ⟨fun _ => mem_all.2 ⟨_, in_esL lti, hq_⟩, fun _ => by omega⟩⟩, BW2⟩
      show Ending.returned (a.eval (.tmp 4)) = _
      rw [t4]
    · refine wp_region_sq (σ := Unit) 19 [(0, 11), (1, 12), (2, 13), (3, 14), (4, 15), (5, 16)] (fun j_ s X => match j_ with | 0 => Below V.heap.size V X | 1 => Below V.heap.size V X | 2 => Below V.heap.size V X | 3 => Below V.heap.size V X | 4 => Below V.heap.size V X | 5 => Below V.heap.size V X | _ => Below V.heap.size V X) (fun s => fun i_ => match i_ with | 0 => .func (.func hF) #[] #[.pointer (some ⟨G, 0, none⟩)] | 1 => ev | 2 => .int .i64 ((i : Nat) : Int) | 3 => .pointer (some ⟨eb, eo + i * 2, none⟩) | 4 => .agg (epC (nu i) (tw i)) | 5 => .bool false | _ => undef) () A.1 (by kernel_rfl) (by decide) (by decide) (BB) ?_ ?_
      · intro i_ hi_ s a X hf hv hn hS
        match i_, hi_ with
        | 0, _ => exact stepV rfl rfl (execMvB rfl ((hf 1 (by decide)).trans t1)) ⟨s, ⟨_, rfl, rfl⟩, hS, fun _ _ => rfl⟩
        | 1, _ => exact stepV rfl rfl (execMvB rfl ((hf 0 (by decide)).trans t0)) ⟨s, ⟨_, rfl, rfl⟩, hS, fun _ _ => rfl⟩
        | 2, _ => exact stepV rfl rfl (execMvB rfl ((hf 5 (by decide)).trans t5)) ⟨s, ⟨_, rfl, rfl⟩, hS, fun _ _ => rfl⟩
        | 3, _ => exact stepV rfl rfl (execIdxEs (k := i) rfl ((hv 1 (by decide) _ rfl _ rfl).trans ee_) (hv 2 (by decide) _ rfl _ rfl) lti) ⟨s, ⟨_, rfl, rfl⟩, hS, fun _ _ => rfl⟩
        | 4, _ => exact stepV rfl rfl (execLdEp rfl (hv 3 (by decide) _ rfl _ rfl) (cN X hS) (cE X hS)) ⟨s, ⟨_, rfl, rfl⟩, hS, fun _ _ => rfl⟩
        | 5, _ =>
          refine stepC rfl rfl (execCallF fn_has (by kernel_rfl) (by kernel_rfl) rfl (hv 0 (by decide) _ rfl _ rfl) (hv 4 (by decide) _ rfl _ rfl)) (phas1 (nu i) (tw i) (ln i) (t i) f G hfb X (hT.on hS) (by omega) (on9 hG hS)) fun e w' hh => ?_
          obtain ⟨he, hb⟩ := hh
          rw [decide_eq_false hq_] at he
          refine ⟨_, he, s, ⟨_, rfl, rfl⟩, (hS).trans ((hb).mono (hS).size), fun i hi => ?_⟩
          match i, hi with
          | 0, _ => rfl
          | 1, _ => rfl
          | 2, _ => rfl
          | 3, _ => rfl
          | 4, _ => rfl
          | n_ + 5, h_ => omega
        | k_ + 6, h_ => exact absurd h_ (by simp)
      rintro _ a X4 h1 h2 h3 h4 hS
      clear BB
      replace hS : Below V.heap.size V X4 := hS
      have BB := hS
      clear hS
      replace t0 := (h3 0 (by decide)).trans t0
      replace t1 := (h3 1 (by decide)).trans t1
      replace t7 := (h3 7 (by decide)).trans t7
      replace t8 := (h3 8 (by decide)).trans t8
      replace t5 := (h3 5 (by decide)).trans t5
      have t16 : a.eval (.tmp 16) = .bool false := h4 5 _ rfl _ rfl
      replace A := (⟨h1, h2.trans A.2⟩ : a.tmps.size = 19 ∧ a.defers = [])
      clear h1 h2 h3 h4
      refine wp_cond_false t16 ?_
      refine wp_skip ?_
      clear t16
      refine wi_ A (h5_ t0 t1 t7 t8 t5) (rv_ 0 (.int .i64 ((i + 1 : Nat) : Int)) (fun a ee => execAd8 (p := i) (q := 1) rfl (ee _) rfl (by omega)) (rf_ [(8, .int .i64 ((i + 1 : Nat) : Int))] (h3_ t0 t1 t7) ?_))
      rintro a A ⟨t8, -⟩ ⟨t0, t1, t7, -⟩
      exact ⟨⟨i + 1, lti, fun k_ h => by rcases Nat.lt_or_eq_of_le (Nat.le_of_lt_succ h) with h_ | h_; exact hno k_ h_; exact h_ ▸ hq_, A, t0, t1, t7, t8, BB⟩, by show n - (intOf (a.eval (.tmp 8))).toNat < n - (intOf (Act.eval _ (.tmp 8))).toNat; rw [t8, esi]; show n - (i + 1) < n - i; omega⟩
  · rw [decide_eq_false lti] at t9
    refine wp_cond_false t9 ?_
    refine wp_exit ?_
    first | with_reducible refine exit_in ?_ | with_reducible refine exit_then (exit_in ?_) | with_reducible refine exit_then (exit_then (exit_in ?_)) | refine exit_in ?_ | refine exit_then (exit_in ?_) | refine exit_then (exit_then (exit_in ?_))
    clear t9 esi
    have ein : i = n := by omega
    rw [ein] at hno
    have BW2 := BW.trans (BB.mono BW.size)
    refine wp_seq ?_
    refine wi_ A (h4_ t0 t1 t7 t8) (rg_ [(4, .int .i64 (-1))] ?_)
    rintro a A ⟨t4, -⟩
    refine wp_ret ?_
    refine bodyPost_ret (results_tmp rfl _ _ _) A.2 ⟨⟨-1, ?_, ⟨fun h_ => absurd h_ (by decide), fun h_ => absurd h_ (nmem_all hno)⟩⟩, BW2⟩
    show Ending.returned (a.eval (.tmp 4)) = _
    rw [t4]
set_option maxRecDepth 100000 in
set_option maxHeartbeats 4000000 in
/-- slices.ContainsFunc of epochs by Has. -/
theorem pcontF (ev : Value) (n : Nat) (nu : Nat → Int) (tw : Nat → Value) (ln : Nat → Nat) (t : Nat → Nat → Nat → Nat) (f : Nat → Nat) (G : Nat) (hfb : ∀ i, i < 16 → f i < 256) (V : World) (hE : Eps V ev n nu tw ln t) (hn : n < 9223372036854775808) (hl : ∀ j, j < n → ln j ≤ 8796093022208) (hG : V.heap[G]? = some (.cells (bA 16 f) 44)) :
    Calls Tryz.prog 19 #[ev, .func (.func hF) #[] #[.pointer (some ⟨G, 0, none⟩)]] V fun e w' => e = .returned (.bool (decide (tv f 16 ∈ wAll (esL n nu ln t)))) ∧ Below V.heap.size V w' := by
  go_enter Tryz.func19, Tryz.ntmps19
  refine wo_ 9 [(0, ev), (1, .func (.func hF) #[] #[.pointer (some ⟨G, 0, none⟩)])] ?_
  rintro a A ⟨t0, t1, -⟩
  have BW : Below V.heap.size V V := Below.refl _ _
  have BB : Below V.heap.size V V := Below.refl _ _
  refine wp_seq ?_
  refine wi_ A (h2_ t0 t1) (rf_ [] (h2_ t0 t1) ?_)
  rintro a A - ⟨t0, t1, -⟩
  refine wp_seq ?_
  refine wi_ A (h2_ t0 t1) (rc_ 2 (pindexF ev n nu tw ln t f G hfb V (hE.on BB) hn hl (on9 hG BB)) fun e X1 hh => ?_)
  obtain ⟨⟨z7, he, hk⟩, hb⟩ := hh
  refine ⟨_, he, ?_⟩
  have bQ : Below V.heap.size V X1 := hb
  have Fz : (0 ≤ z7 ↔ tv f 16 ∈ wAll (esL n nu ln t)) := hk
  replace BB := BB.trans (bQ.mono BB.size)
  clear bQ
  refine rv_ 3 (.bool (decide (z7 ≥ 0))) (fun a ee => exIgeq3 (p := z7) (q := 0) rfl (ee _) rfl) (rg_ [(4, .bool (decide (z7 ≥ 0)))] ?_)
  rintro a A ⟨t4, -⟩
  have BW2 := BW.trans (BB.mono BW.size)
  refine wp_ret ?_
  refine bodyPost_ret (results_tmp rfl _ _ _) A.2 ⟨?_, BW2⟩
  show Ending.returned (a.eval (.tmp 4)) = _
  rw [t4]
  congr 2
  exact decide_eq_decide.2 Fz
set_option maxRecDepth 100000 in
set_option maxHeartbeats 4000000 in
/-- The program's Has. -/
theorem phas16 (nw : Int) (ev : Value) (n : Nat) (nu : Nat → Int) (tw : Nat → Value) (ln : Nat → Nat) (t : Nat → Nat → Nat → Nat) (V : World) (hE : Eps V ev n nu tw ln t) (hn : n < 9223372036854775808) (hl : ∀ j, j < n → ln j ≤ 8796093022208) (f : Nat → Nat) (hfb : ∀ i, i < 16 → f i < 256) :
    Calls Tryz.prog 10 #[.agg (wC nw ev), .agg (bA 16 f)] V fun e w' => e = .returned (.bool (decide (tv f 16 ∈ wAll (esL n nu ln t)))) ∧ Below V.heap.size V w' := by
  go_enter Tryz.func10, Tryz.ntmps10
  refine wo_ 9 [(0, .agg (wC nw ev)), (1, .agg (bA 16 f))] ?_
  rintro a A ⟨t0, t1, -⟩
  have BW : Below V.heap.size V V := Below.refl _ _
  refine wp_seq ?_
  obtain ⟨g2, egg2⟩ : ∃ z_ : Nat, V.heap.size = z_ := ⟨_, rfl⟩
  refine wi_ A (h2_ t0 t1) (rs_ 0 (fun a ee => ?_))
  refine stepV rfl rfl (execBoxW rfl (ee _)) ⟨.pointer (some ⟨g2, 0, none⟩), ⟨_, rfl, by subst egg2; rfl⟩, fun X0_1 hX => ?_⟩
  have bQ : Below V.heap.size V X0_1 := by subst hX egg2; exact (belNew V _)
  have Fg2 : (X0_1.heap[g2]? = some (.cells (wC nw ev) 27)) := by subst hX egg2; exact heapNew V _
  have bX := bQ
  clear bQ hX egg2 ee a
  obtain ⟨g3, egg3⟩ : ∃ z_ : Nat, X0_1.heap.size = z_ := ⟨_, rfl⟩
  refine rs_ 1 (fun a ee => ?_)
  refine stepV rfl rfl (execBox16 rfl (ee _)) ⟨.pointer (some ⟨g3, 0, none⟩), ⟨_, rfl, by subst egg3; rfl⟩, fun X0 hX => ?_⟩
  have bQ : Below X0_1.heap.size X0_1 X0 := by subst hX egg3; exact (belNew X0_1 _)
  have Fg3 : (X0.heap[g3]? = some (.cells (bA 16 f) 44)) := by subst hX egg3; exact heapNew X0_1 _
  replace Fg2 := (on9 Fg2 bQ)
  replace bX := bX.trans (bQ.mono bX.size)
  clear bQ hX egg3 ee a
  refine rg_ [(2, .pointer (some ⟨g2, 0, none⟩)), (3, .pointer (some ⟨g3, 0, none⟩))] ?_
  rintro a A ⟨t2, t3, -⟩
  replace hE := (hE.on bX)
  have ZX0 := bX.size
  replace BW := BW.trans (bX.mono BW.size)
  clear bX
  have BB : Below X0.heap.size X0 X0 := Below.refl _ _
  refine wp_seq ?_
  refine wi_ A (h2_ t2 t3) (rv_ 0 (.pointer (some ⟨g2, 1, none⟩)) (fun a ee => execFldW1 rfl (ee _)) (rv_ 1 (ev) (fun a ee => execLdEs rfl (ee _) (wC_1 (on9 Fg2 BB))) (rv_ 2 (.func (.func hF) #[] #[.pointer (some ⟨g3, 0, none⟩)]) (fun a ee => execMkF rfl (ee _)) (rc_ 3 (pcontF ev n nu tw ln t f g3 hfb X0 (hE.on BB) hn hl (on9 Fg3 BB)) (cb_ fun X1 bQ => ?_)))))
  replace BB := BB.trans (bQ.mono BB.size)
  clear bQ
  refine rg_ [(4, .bool (decide (tv f 16 ∈ wAll (esL n nu ln t))))] ?_
  rintro a A ⟨t4, -⟩
  have BW2 := BW.trans (BB.mono BW.size)
  refine wp_ret ?_
  refine bodyPost_ret (results_tmp rfl _ _ _) A.2 ⟨?_, BW2⟩
  show Ending.returned (a.eval (.tmp 4)) = _
  rw [t4]
end Go.Proofs.YtejhbfbnljioeaaGreatDoor.Win
