import Derived.Test.YtmllfmnpcidkbaaN8b
namespace Go.Proofs.Ytmllfmnpcidkbaa.Loo
open Go.RowKit Gf8 Aes By8 Cel Cf Win Drw Prm
/- Operations over the landed loom's types. Written by tools/mkN8c.py. -/

section
variable {o : Oper} {a : Act} {w : World}
theorem execRf0 {x : Operand} {b : Nat} (ho : o.op = .fieldAddr 70 x 0) (hx : a.eval x = .pointer (some ⟨b, 0, none⟩)) : (execOp a.eval o).run Try.prog w = .ok (.value (.pointer (some ⟨b, 0, none⟩))) w := by
  unfold execOp
  simp only [ho, hx]
  simp [go_sem]
theorem execRf1 {x : Operand} {b : Nat} (ho : o.op = .fieldAddr 70 x 1) (hx : a.eval x = .pointer (some ⟨b, 0, none⟩)) : (execOp a.eval o).run Try.prog w = .ok (.value (.pointer (some ⟨b, 1, none⟩))) w := by
  unfold execOp
  simp only [ho, hx]
  simp [go_sem]
theorem execRf2 {x : Operand} {b : Nat} (ho : o.op = .fieldAddr 70 x 2) (hx : a.eval x = .pointer (some ⟨b, 0, none⟩)) : (execOp a.eval o).run Try.prog w = .ok (.value (.pointer (some ⟨b, 2, none⟩))) w := by
  unfold execOp
  simp only [ho, hx]
  simp [go_sem]
theorem execRf3 {x : Operand} {b : Nat} (ho : o.op = .fieldAddr 70 x 3) (hx : a.eval x = .pointer (some ⟨b, 0, none⟩)) : (execOp a.eval o).run Try.prog w = .ok (.value (.pointer (some ⟨b, 3, none⟩))) w := by
  unfold execOp
  simp only [ho, hx]
  simp [go_sem]
theorem execRf4 {x : Operand} {b : Nat} (ho : o.op = .fieldAddr 70 x 4) (hx : a.eval x = .pointer (some ⟨b, 0, none⟩)) : (execOp a.eval o).run Try.prog w = .ok (.value (.pointer (some ⟨b, 4, none⟩))) w := by
  unfold execOp
  simp only [ho, hx]
  simp [go_sem]
theorem execRf5 {x : Operand} {b : Nat} (ho : o.op = .fieldAddr 70 x 5) (hx : a.eval x = .pointer (some ⟨b, 0, none⟩)) : (execOp a.eval o).run Try.prog w = .ok (.value (.pointer (some ⟨b, 5, none⟩))) w := by
  unfold execOp
  simp only [ho, hx]
  simp [go_sem]
theorem execNf0 {x : Operand} {b : Nat} (ho : o.op = .fieldAddr 89 x 0) (hx : a.eval x = .pointer (some ⟨b, 0, none⟩)) : (execOp a.eval o).run Try.prog w = .ok (.value (.pointer (some ⟨b, 0, none⟩))) w := by
  unfold execOp
  simp only [ho, hx]
  simp [go_sem]
theorem execNf1 {x : Operand} {b : Nat} (ho : o.op = .fieldAddr 89 x 1) (hx : a.eval x = .pointer (some ⟨b, 0, none⟩)) : (execOp a.eval o).run Try.prog w = .ok (.value (.pointer (some ⟨b, 1, none⟩))) w := by
  unfold execOp
  simp only [ho, hx]
  simp [go_sem]
theorem execNf2 {x : Operand} {b : Nat} (ho : o.op = .fieldAddr 89 x 2) (hx : a.eval x = .pointer (some ⟨b, 0, none⟩)) : (execOp a.eval o).run Try.prog w = .ok (.value (.pointer (some ⟨b, 2, none⟩))) w := by
  unfold execOp
  simp only [ho, hx]
  simp [go_sem]
theorem execNf3 {x : Operand} {b : Nat} (ho : o.op = .fieldAddr 89 x 3) (hx : a.eval x = .pointer (some ⟨b, 0, none⟩)) : (execOp a.eval o).run Try.prog w = .ok (.value (.pointer (some ⟨b, 3, none⟩))) w := by
  unfold execOp
  simp only [ho, hx]
  simp [go_sem]
theorem execSf0 {x : Operand} {b : Nat} {off : Nat} (ho : o.op = .fieldAddr 73 x 0) (hx : a.eval x = .pointer (some ⟨b, off, none⟩)) : (execOp a.eval o).run Try.prog w = .ok (.value (.pointer (some ⟨b, off, none⟩))) w := by
  unfold execOp
  simp only [ho, hx]
  simp [go_sem]
theorem execSf1 {x : Operand} {b : Nat} {off : Nat} (ho : o.op = .fieldAddr 73 x 1) (hx : a.eval x = .pointer (some ⟨b, off, none⟩)) : (execOp a.eval o).run Try.prog w = .ok (.value (.pointer (some ⟨b, off + 1, none⟩))) w := by
  unfold execOp
  simp only [ho, hx]
  simp [go_sem]
theorem execSf2 {x : Operand} {b : Nat} {off : Nat} (ho : o.op = .fieldAddr 73 x 2) (hx : a.eval x = .pointer (some ⟨b, off, none⟩)) : (execOp a.eval o).run Try.prog w = .ok (.value (.pointer (some ⟨b, off + 2, none⟩))) w := by
  unfold execOp
  simp only [ho, hx]
  simp [go_sem]
theorem execTf0 {x : Operand} {b : Nat} {off : Nat} (ho : o.op = .fieldAddr 48 x 0) (hx : a.eval x = .pointer (some ⟨b, off, none⟩)) : (execOp a.eval o).run Try.prog w = .ok (.value (.pointer (some ⟨b, off, none⟩))) w := by
  unfold execOp
  simp only [ho, hx]
  simp [go_sem]
theorem execTf1 {x : Operand} {b : Nat} {off : Nat} (ho : o.op = .fieldAddr 48 x 1) (hx : a.eval x = .pointer (some ⟨b, off, none⟩)) : (execOp a.eval o).run Try.prog w = .ok (.value (.pointer (some ⟨b, off + 1, none⟩))) w := by
  unfold execOp
  simp only [ho, hx]
  simp [go_sem]
theorem execLdP {t : TypeId} {x : Operand} {b k : Nat} {v : Value} (ho : o.op = .load t x) (ht : t = 67 ∨ t = 68 ∨ t = 71 ∨ t = 85 ∨ t = 64 ∨ t = 26 ∨ t = 1) (hx : a.eval x = .pointer (some ⟨b, k, none⟩)) (hc : w.cell? ⟨b, k, none⟩ = some v) : (execOp a.eval o).run Try.prog w = .ok (.value v) w := by
  unfold execOp
  rcases ht with rfl | rfl | rfl | rfl | rfl | rfl | rfl <;> (simp only [ho, hx]; simp [go_sem, hc])
def OneV (u : Value) : Prop := (∃ k z, u = .int k z) ∨ (∃ b, u = .bool b) ∨ (∃ q, u = .pointer q) ∨ ∃ a n c, u = .slice a n c
theorem execSt9 {t : TypeId} {x y : Operand} {b k : Nat} {u old : Value} (ho : o.op = .store t x y) (ht : t = 3 ∨ t = 4 ∨ t = 22 ∨ t = 27 ∨ t = 67 ∨ t = 68 ∨ t = 71) (hx : a.eval x = .pointer (some ⟨b, k, none⟩)) (hy : a.eval y = u) (hu : OneV u) (hc : w.cell? ⟨b, k, none⟩ = some old) (hf : w.frozen? ⟨b, k, none⟩ = false) : (execOp a.eval o).run Try.prog w = .ok .skip (w.setCell ⟨b, k, none⟩ u) := by
  unfold execOp
  rcases hu with ⟨_, _, rfl⟩ | ⟨_, rfl⟩ | ⟨_, rfl⟩ | ⟨_, _, _, rfl⟩ <;> (rcases ht with rfl | rfl | rfl | rfl | rfl | rfl | rfl <;> (simp only [ho, hx, hy]; simp [go_sem, hc, hf]))
theorem execLnD {x : Operand} {v : Value} {len : Nat} (ho : o.op = .call { callee := .builtin .len, args := #[x], argTypes := #[67] }) (hx : a.eval x = v) (hv : ∃ ao c, v = .slice ao len c) : (execOp a.eval o).run Try.prog w = .ok (.value (.int .i64 ((len : Nat) : Int))) w := by
  obtain ⟨ao, c, rfl⟩ := hv
  unfold execOp
  simp only [ho, resolve, invoke, builtin, Sem.run_bind, Sem.run_pure, Result.andThen_ok, List.map_toArray, List.map_cons, List.map_nil, hx]
  simp [go_sem]
theorem execIxD {x i : Operand} {g n cap k : Nat} (ho : o.op = .indexAddr 67 x i) (hx : a.eval x = .slice (some ⟨g, 0, none⟩) n cap) (hi : a.eval i = .int .i64 ((k : Nat) : Int)) (hk : k < n) : (execOp a.eval o).run Try.prog w = .ok (.value (.pointer (some ⟨g, k, none⟩))) w := by
  have h1 : (k : Int) < n := by omega
  unfold execOp
  simp only [ho, hx, hi]
  simp [go_sem, h1]
theorem execLnH {x : Operand} {v : Value} {len : Nat} (ho : o.op = .call { callee := .builtin .len, args := #[x], argTypes := #[68] }) (hx : a.eval x = v) (hv : ∃ ao c, v = .slice ao len c) : (execOp a.eval o).run Try.prog w = .ok (.value (.int .i64 ((len : Nat) : Int))) w := by
  obtain ⟨ao, c, rfl⟩ := hv
  unfold execOp
  simp only [ho, resolve, invoke, builtin, Sem.run_bind, Sem.run_pure, Result.andThen_ok, List.map_toArray, List.map_cons, List.map_nil, hx]
  simp [go_sem]
theorem execIxH {x i : Operand} {g n cap k : Nat} (ho : o.op = .indexAddr 68 x i) (hx : a.eval x = .slice (some ⟨g, 0, none⟩) n cap) (hi : a.eval i = .int .i64 ((k : Nat) : Int)) (hk : k < n) : (execOp a.eval o).run Try.prog w = .ok (.value (.pointer (some ⟨g, k, none⟩))) w := by
  have h1 : (k : Int) < n := by omega
  unfold execOp
  simp only [ho, hx, hi]
  simp [go_sem, h1]
theorem execLnK {x : Operand} {v : Value} {len : Nat} (ho : o.op = .call { callee := .builtin .len, args := #[x], argTypes := #[66] }) (hx : a.eval x = v) (hv : ∃ ao c, v = .slice ao len c) : (execOp a.eval o).run Try.prog w = .ok (.value (.int .i64 ((len : Nat) : Int))) w := by
  obtain ⟨ao, c, rfl⟩ := hv
  unfold execOp
  simp only [ho, resolve, invoke, builtin, Sem.run_bind, Sem.run_pure, Result.andThen_ok, List.map_toArray, List.map_cons, List.map_nil, hx]
  simp [go_sem]
theorem execIxK {x i : Operand} {g n cap k : Nat} (ho : o.op = .indexAddr 66 x i) (hx : a.eval x = .slice (some ⟨g, 0, none⟩) n cap) (hi : a.eval i = .int .i64 ((k : Nat) : Int)) (hk : k < n) : (execOp a.eval o).run Try.prog w = .ok (.value (.pointer (some ⟨g, 0 + k * 3, none⟩))) w := by
  have h1 : (k : Int) < n := by omega
  unfold execOp
  simp only [ho, hx, hi]
  simp [go_sem, h1]
theorem execLnQ {x : Operand} {v : Value} {len : Nat} (ho : o.op = .call { callee := .builtin .len, args := #[x], argTypes := #[42] }) (hx : a.eval x = v) (hv : ∃ ao c, v = .slice ao len c) : (execOp a.eval o).run Try.prog w = .ok (.value (.int .i64 ((len : Nat) : Int))) w := by
  obtain ⟨ao, c, rfl⟩ := hv
  unfold execOp
  simp only [ho, resolve, invoke, builtin, Sem.run_bind, Sem.run_pure, Result.andThen_ok, List.map_toArray, List.map_cons, List.map_nil, hx]
  simp [go_sem]
theorem execIxQ {x i : Operand} {g off n cap k : Nat} (ho : o.op = .indexAddr 42 x i) (hx : a.eval x = .slice (some ⟨g, off, none⟩) n cap) (hi : a.eval i = .int .i64 ((k : Nat) : Int)) (hk : k < n) : (execOp a.eval o).run Try.prog w = .ok (.value (.pointer (some ⟨g, off + k * 2, none⟩))) w := by
  have h1 : (k : Int) < n := by omega
  unfold execOp
  simp only [ho, hx, hi]
  simp [go_sem, h1]
theorem execHneq {x y : Operand} {q : Option Addr} (ho : o.op = .binOp .neq 71 x y 71) (hx : a.eval x = .pointer q) (hy : a.eval y = .pointer none) : (execOp a.eval o).run Try.prog w = .ok (.value (.bool q.isSome)) w := by
  unfold execOp
  simp only [ho, hx, hy]
  cases q <;> simp [go_sem]
theorem execAlO (ho : o.op = .alloc 59) : (execOp a.eval o).run Try.prog w = .ok (.value (.pointer (some ⟨w.heap.size, 0, none⟩))) (w.alloc (.cells (oC 0 0 0) 59)) := by
  unfold execOp
  simp only [ho]
  simp [go_sem, oC]
theorem execStO {x y : Operand} {g : Nat} {p q r p0 q0 r0 : Int} (ho : o.op = .store 59 x y) (hx : a.eval x = .pointer (some ⟨g, 0, none⟩)) (hy : a.eval y = .agg (oC p q r)) (hg : w.heap[g]? = some (.cells (oC p0 q0 r0) 59)) : (execOp a.eval o).run Try.prog w = .ok .skip (w.setRow g (oC p q r)) := by
  have h := execStMid (P := Try.prog) ho hx hy hg (Nat.le_refl _) (by show _ = some 3; kernel_rfl) (by simp [oC, Value.oneCell'])
  exact h
theorem execLdO0 {x : Operand} {g : Nat} {p q r : Int} (ho : o.op = .load 59 x) (hx : a.eval x = .pointer (some ⟨g, 0, none⟩)) (hg : w.heap[g]? = some (.cells (oC p q r) 59)) : (execOp a.eval o).run Try.prog w = .ok (.value (.agg (oC p q r))) w :=
  execLdO (q := ⟨p, q, r⟩) ho hx (oC_at hg)
theorem execMaxN {x y : Operand} {p q : Nat} (ho : o.op = .call { callee := .builtin .max, args := #[x, y], argTypes := #[3, 3] }) (hx : a.eval x = .int .i64 ((p : Nat) : Int)) (hy : a.eval y = .int .i64 ((q : Nat) : Int)) : (execOp a.eval o).run Try.prog w = .ok (.value (.int .i64 ((max p q : Nat) : Int))) w := by
  unfold execOp
  simp only [ho, resolve, invoke, builtin, Sem.run_bind, Sem.run_pure, Result.andThen_ok, List.map_toArray, List.map_cons, List.map_nil, hx, hy]
  simp [go_sem]
  omega
theorem execMkFn {g : Nat} {xs ys : Array Operand} (ho : o.op = .makeFunc (.func g) xs ys) : (execOp a.eval o).run Try.prog w = .ok (.value (.func (.func g) (xs.map a.eval) (ys.map a.eval))) w := by
  unfold execOp
  simp only [ho]
  simp [go_sem]
theorem execCallFv {f : FuncId} {fn : Func} {c : Operand} {bd lb : Array Value} (hf : Try.prog.funcs[f]? = some fn) (hname : (fn.name == "runtime.NumGoroutine") = false) (hb : fn.body.isSome = true) (ho : o.op = .call { callee := .value c, args := #[], argTypes := #[] }) (hc : a.eval c = .func (.func f) bd lb) : (execOp a.eval o).run Try.prog w = .ok (.enter f (bd ++ lb)) w := by
  have h1 : fn.name ≠ "runtime.NumGoroutine" := by simpa using hname
  obtain ⟨b, hb⟩ := Option.isSome_iff_exists.1 hb
  have h2 : ∀ args, (callFunc f args).run Try.prog w = .ok (.enter f args) w := by intro args; simp [callFunc, hf, h1, hb]
  unfold execOp
  simp only [ho, resolve, invoke, Deferred.ofValue, Sem.run_bind, Sem.run_pure, Result.andThen_ok, List.map_toArray, List.map_nil, hc]
  simp [h2]
theorem eqf_n0 (w : World) (d : Nat) : (Op.equalIn (d + 1) 26 .nilFunc .nilFunc).run Try.prog w = .ok true w := by
  simp [Op.equalIn, run_underlying Try.underlying26]
theorem eqf_n (w : World) : (Op.equal 26 .nilFunc .nilFunc).run Try.prog w = .ok true w := eqf_n0 w 9999
theorem eqf_f0 (w : World) (f : Fn) (b l : Array Value) (d : Nat) : (Op.equalIn (d + 1) 26 (.func f b l) .nilFunc).run Try.prog w = .ok false w := by
  simp [Op.equalIn, run_underlying Try.underlying26]
theorem eqf_f (w : World) (f : Fn) (b l : Array Value) : (Op.equal 26 (.func f b l) .nilFunc).run Try.prog w = .ok false w := eqf_f0 w f b l 9999
theorem execFn_n {x y : Operand} (ho : o.op = .binOp .eql 26 x y 26) (hx : a.eval x = .nilFunc) (hy : a.eval y = .nilFunc) : (execOp a.eval o).run Try.prog w = .ok (.value (.bool true)) w := by
  unfold execOp
  simp only [ho, hx, hy]
  simp only [binOp]
  simp [go_sem, eqf_n]
theorem execFn_f {x y : Operand} {f : Fn} {b l : Array Value} (ho : o.op = .binOp .eql 26 x y 26) (hx : a.eval x = .func f b l) (hy : a.eval y = .nilFunc) : (execOp a.eval o).run Try.prog w = .ok (.value (.bool false)) w := by
  unfold execOp
  simp only [ho, hx, hy]
  simp only [binOp]
  simp [go_sem, eqf_f]
end
end Go.Proofs.Ytmllfmnpcidkbaa.Loo

namespace Go.Proofs.Ytmllfmnpcidkbaa.Loo
open Go.RowKit Gf8 Aes By8 Cel Cf Win Drw Prm
/- The ducts of a run; what its functions answer, in the run's own words. -/

section
variable {p : Pl} {A : Ad} {U W X V : World} {ow ow' ow0 : Nat → Nat} {M N : Mm} {c c0 t i z : Nat}
theorem RN.dlen (h : RN p A U ow M V) (hi : i < p.d) : Calls Try.prog 62 #[A.dv i] V fun e w' => e = .returned (.int .i64 (((M.hd i).length : Nat) : Int)) ∧ Below V.heap.size V w' := Duc.implI.len (h.duct hi).1
theorem RN.dcap (h : RN p A U ow M V) (hi : i < p.d) : Calls Try.prog 63 #[A.dv i] V fun e w' => e = .returned (.int .i64 (((p.cap i).toNat : Nat) : Int)) ∧ Below V.heap.size V w' := Duc.implI.cap (h.duct hi).1
theorem RN.dclosed (h : RN p A U ow M V) (hi : i < p.d) : Calls Try.prog 55 #[A.dv i] V fun e w' => e = .returned (.bool (M.cl i)) ∧ Below V.heap.size V w' := Duc.implI.closed (h.duct hi).1
theorem RN.dcanPut (h : RN p A U ow M V) (hi : i < p.d) : Calls Try.prog 56 #[A.dv i] V fun e w' => e = .returned (.bool (decide (M.cl i = false ∧ (M.hd i).length < (p.cap i).toNat))) ∧ Below V.heap.size V w' := Duc.implI.canPut (h.duct hi).1
theorem RN.dcanTake (h : RN p A U ow M V) (hi : i < p.d) : Calls Try.prog 64 #[A.dv i] V fun e w' => e = .returned (.bool (decide (0 < (M.hd i).length))) ∧ Below V.heap.size V w' := Duc.implI.canTake (h.duct hi).1
theorem RN.dput {y : Int} (h : RN p A U ow M V) (hi : i < p.d) (hy : I64 y) : Calls Try.prog 70 #[A.dv i, .int .i64 y] V fun e w' => e = .returned (.tuple #[.bool (decide (M.cl i = false ∧ (M.hd i).length < (p.cap i).toNat)), .int .i64 (((if M.cl i then 180 else 0 : Nat) : Nat) : Int)]) ∧ To p A U ow V { M with hd := upf M.hd i (if M.cl i = false ∧ (M.hd i).length < (p.cap i).toNat then M.hd i ++ [y] else M.hd i) } w' := by
  have hd := h.duct hi
  refine Calls.mono (Duc.implI.put hd.1 ⟨y, rfl, hy⟩) fun e w' ⟨F', he, hR, hs, hf⟩ => ⟨he, ?_⟩
  have key := fun hd2 en ex hf2 => h.st.ductTo (i := i) (hd := hd2) hR hs hf en ex hf2
  rw [upf_self] at key
  by_cases q : M.cl i = false ∧ (M.hd i).length < (p.cap i).toNat
  · rw [if_pos q] at key ⊢
    refine key (M.hd i ++ [y]) (by simp) (fun j hj => ?_) (fun x hx => ?_)
    · by_cases w : j = (M.hd i).length
      · rw [w, Win.up_at]
        unfold hL
        rw [List.getD_eq_getElem?_getD, List.getElem?_append_right (Nat.le_refl _), Nat.sub_self]
        rfl
      · rw [Win.up_ne _ _ w]
        unfold hL
        rw [List.getD_eq_getElem?_getD, List.getD_eq_getElem?_getD, List.getElem?_append_left (by omega)]
    · rcases List.mem_append.1 hx with w | w
      · exact hd.2 x w
      · rw [List.mem_singleton.1 w]; exact hy
  · rw [if_neg q] at key ⊢
    exact key (M.hd i) rfl (fun j hj => Win.up_ne _ _ (Nat.ne_of_lt hj)) hd.2
theorem RN.dtake (h : RN p A U ow M V) (hi : i < p.d) : Calls Try.prog 72 #[A.dv i] V fun e w' => e = .returned (.tuple #[if 0 < (M.hd i).length then .int .i64 (hL (M.hd i) 0) else .int .i64 0, .bool (decide (0 < (M.hd i).length)), .int .i64 (((if (M.hd i).length = 0 ∧ M.cl i = true then 180 else 0 : Nat) : Nat) : Int)]) ∧ To p A U ow V { M with hd := upf M.hd i (M.hd i).tail } w' := by
  have hd := h.duct hi
  refine Calls.mono (Duc.implI.take hd.1) fun e w' ⟨F', he, hR, hs, hf⟩ => ⟨he, ?_⟩
  have key := fun hd2 en ex hf2 => h.st.ductTo (i := i) (hd := hd2) hR hs hf en ex hf2
  rw [upf_self] at key
  refine key (M.hd i).tail (by simp) (fun j hj => ?_) (fun x hx => hd.2 x (List.mem_of_mem_tail hx))
  unfold hL
  cases e : M.hd i with
  | nil => rfl
  | cons x l => rfl
theorem RN.dclose (h : RN p A U ow M V) (hi : i < p.d) : Calls Try.prog 68 #[A.dv i] V fun e w' => e = .returned (.int .i64 (((if M.cl i then 180 else 0 : Nat) : Nat) : Int)) ∧ To p A U ow V { M with cl := upf M.cl i true } w' := by
  have hd := h.duct hi
  refine Calls.mono (Duc.implI.close hd.1) fun e w' ⟨F', he, hR, hs, hf⟩ => ⟨he, ?_⟩
  have key := h.st.ductTo (i := i) (hd := M.hd i) hR hs hf rfl (fun _ _ => rfl) hd.2
  rw [upf_self] at key
  exact key
/-- A duct's place in its row. -/
theorem RN.dO (h : RN p A U ow M W) (hi : i < p.d) : ∃ b c, A.dS = .slice (some ⟨b, 0, none⟩) p.d c := by
  obtain ⟨b, c, _, e, _⟩ := h.dR.open hi
  exact ⟨b, c, e⟩
theorem RN.hO (h : RN p A U ow M W) (hi : i < p.n) : ∃ b c, A.hS = .slice (some ⟨b, 0, none⟩) p.n c := by
  obtain ⟨b, c, _, e, _⟩ := h.hR.open hi
  exact ⟨b, c, e⟩
theorem RN.gO (h : RN p A U ow M W) (hi : i < p.d) : ∃ b c, A.gS = .slice (some ⟨b, 0, none⟩) p.d c := by
  obtain ⟨b, c, _, e, _⟩ := h.gR.open hi
  exact ⟨b, c, e⟩
theorem RN.tO (h : RN p A U ow M W) (hi : i < p.d) : ∃ b c, A.tS = .slice (some ⟨b, 0, none⟩) p.d c := by
  obtain ⟨b, c, _, e, _⟩ := h.tR.open hi
  exact ⟨b, c, e⟩
theorem RN.capN (h : RN p A U ow M W) (hi : i < p.d) : (p.cap i).toNat = 0 ↔ p.cap i = 0 := by
  have := h.ok.cap i hi
  omega
end
def meetM (p : Pl) (M : Mm) (o : Nat → Option Nat) (i : Nat) : Bool := decide (p.cap i = 0) && !M.cl i && (o i).isSome
def rdyM (p : Pl) (M : Mm) (i : Nat) : Bool := decide (0 < (M.hd i).length) || meetM p M M.gv i
def sptM (M : Mm) (i : Nat) : Bool := M.cl i && decide ((M.hd i).length = 0)
theorem execHne {A : Ad} {oo : Option Nat} {o : Oper} {a : Act} {w : World} {x y : Operand} (ho : o.op = .binOp .neq 71 x y 71) (hx : a.eval x = pv A oo) (hy : a.eval y = .pointer none) : (execOp a.eval o).run Try.prog w = .ok (.value (.bool oo.isSome)) w := by
  cases oo with
  | none => exact execHneq (q := none) ho hx hy
  | some t => exact execHneq (q := some _) ho hx hy
end Go.Proofs.Ytmllfmnpcidkbaa.Loo
