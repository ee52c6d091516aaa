import Derived.Test.YtghnhfigihnciaaGreatX7b
import Derived.Test.YtghnhfigihnciaaGreatX7f
import Derived.Test.YtghnhfigihnciaaGreatO0
import Derived.Deep.RegionHeld
namespace Go.Proofs.YtghnhfigihnciaaGreat.Cf
open Go.RowKit Gf8 Aes By8 Cel
/- Closed frames: operations of bytes, ints, lists of bytes and lists of these. Gathered by tools/mkE9a.py. -/

section
variable {o : Oper} {a : Act} {w W : World}
theorem execAsgB {P : Program} {o : Oper} {a : Act} {w : World} {x : Operand} {v : Value} (ho : o.op = .assign x) (hx : a.eval x = v) : (execOp a.eval o).run P w = .ok (.value v) w := by
  unfold execOp
  simp only [ho, hx]
  rfl
theorem execExtT {x : Operand} {k : Nat} {arr : Array Value} {v : Value} (ho : o.op = .extract x k) (hx : a.eval x = .tuple arr) (hk : arr[k]? = some v) : (execOp a.eval o).run Tryz.prog w = .ok (.value v) w := by
  unfold execOp
  simp only [ho, hx]
  simp [go_sem, hk]
theorem execLtW {x y : Operand} {p q : Nat} (ho : o.op = .binOp .lss 3 x y 3) (hx : a.eval x = .int .i64 (p : Int)) (hy : a.eval y = .int .i64 (q : Int)) : (execOp a.eval o).run Tryz.prog w = .ok (.value (.bool (decide (p < q)))) w := by
  unfold execOp
  simp only [ho, hx, hy]
  simp [go_sem]
theorem execAd8 {x y : Operand} {p q : Nat} (ho : o.op = .binOp .add 3 x y 3) (hx : a.eval x = .int .i64 (p : Int)) (hy : a.eval y = .int .i64 (q : Int)) (h : p + q < 9223372036854775808) : (execOp a.eval o).run Tryz.prog w = .ok (.value (.int .i64 ((p + q : Nat) : Int))) w := by
  have e : IntKind.i64.wrap ((p : Int) + (q : Int)) = ((p + q : Nat) : Int) := by rw [← Int.natCast_add]; exact wrap_i64_nat h
  unfold execOp
  simp only [ho, hx, hy]
  simp [go_sem, e]
theorem execNot8 {x : Operand} {b : Bool} (ho : o.op = .unOp .not 4 x) (hx : a.eval x = .bool b) : (execOp a.eval o).run Tryz.prog w = .ok (.value (.bool (!b))) w := by
  unfold execOp
  simp only [ho, hx]
  simp [go_sem]
end
theorem ret_then {K : Act → World → Prop} {Q : Exit → Act → World → Prop} {a : Act} {w : World} (h : Q .ret a w) : Exit.then K Q .ret a w := h
theorem ret_in {id : Nat} {Q : Exit → Act → World → Prop} {a : Act} {w : World} (h : Q .ret a w) : Exit.inBlock id Q .ret a w := h
/-- A drawn region through states, the frame kept closed; slots that are not yet filled are as they were. -/
theorem wp_region_stB {P : Program} {ops : Array Oper} {Q : Exit → Act → World → Prop} {id : Nat} {a0 : Act} {V : World} {σ : Type} (N : Nat) (ds : List (Nat × Nat)) (S : (Nat → Bool) → σ → World → Prop) (v : σ → Nat → Value) (s0 : σ)
    (hm : P.follows .mixedOrders = true) (hf : frontB .any ops = true) (hN : a0.tmps.size = N) (hD : dsOf ops = ds) (hnd : (ds.map (·.2)).Nodup) (hds : ds.all (fun p => decide (p.2 < N)) = true)
    (h0 : S (fun _ => false) s0 V.drew)
    (step : ∀ j, j < ops.size → ∀ l s a w, l j = false → (∀ e, e ∉ ds.map (·.2) → a.eval (.tmp e) = a0.eval (.tmp e)) → (∀ o, ops[j]? = some o → ∀ i, waits o i = true → ∀ q, ops[i]? = some q → ∀ d, q.dst = some d → a.eval (.tmp d) = v s i) →
      (∀ o, ops[j]? = some o → ∀ i, waits o i = true → l i = true) → (∀ i q, ops[i]? = some q → l i = true → ∀ m, waits q m = true → l m = true) → (∀ i q, ops[i]? = some q → ∀ d, q.dst = some d → l i = false → a.eval (.tmp d) = a0.eval (.tmp d)) → S l s w → wpOp P ops Q j (fun a' w' => ∃ s', (∃ o, ops[j]? = some o ∧ a' = a.put o.dst (v s' j)) ∧ S (updB l j) s' w' ∧ ∀ i, i < ops.size → l i = true → v s' i = v s i) a w)
    (fin : ∀ l s a w, a.tmps.size = N → a.defers = a0.defers → (∀ e, e ∉ ds.map (·.2) → a.eval (.tmp e) = a0.eval (.tmp e)) → (∀ p, p ∈ ds → a.eval (.tmp p.2) = v s p.1) → (∀ j, j < ops.size → l j = true) → S l s w → Q .normal a w) : (Code.region id ops true).wp P Q a0 V := by
  refine wp_region_detX N ds (fun l x w => ∃ s, S l s w ∧ ∀ i, i < ops.size → l i = true → x i = v s i) (fun _ => undef) hm hf hN hD hnd hds ⟨s0, h0, fun _ _ h => by cases h⟩ ?_ ?_
  · rintro j hj l x a w hl hfr hdep hl2 hcl hno ⟨s, hS, hx⟩
    refine wpOp_mono ?_ (step j hj l s a w hl hfr (fun o ho i hi q hq d hd => by rw [hdep o ho i hi q hq d hd]; exact hx i (Array.getElem?_eq_some_iff.1 hq).1 (hl2 o ho i hi)) hl2 hcl hno hS)
    rintro a' w' ⟨s', ho, hS', hv⟩
    refine ⟨v s' j, ho, s', hS', fun i hi h => ?_⟩
    unfold updS
    by_cases e : i = j
    · subst e; simp
    · have hli : l i = true := by
        unfold updB at h
        simpa [e] using h
      simp only [e, if_false]
      rw [hx i hi hli, hv i hi hli]
  · rintro l x w hall ⟨s, hS, hx⟩
    have e : putP a0 x ds = putP a0 (v s) ds := putP_congr ds a0 fun p hp => by
      subst hD
      obtain ⟨o, ho, _⟩ := mem_dsOf.1 (show (p.1, p.2) ∈ dsOf ops from hp)
      have hj := (Array.getElem?_eq_some_iff.1 ho).1
      exact hx _ hj (hall _ hj)
    rw [e]
    refine fin l s _ w (by rw [putP_size]; exact hN) (putP_defers _ _ _) (fun e he => putP_other _ _ _ he) (fun p hp => putP_same _ _ _ hnd (fun q hq => ?_) p hp) hall hS
    rw [hN]
    simpa using List.all_eq_true.1 hds q hq
section
variable {o : Oper} {a : Act} {w W : World}
/-- A list is laid into a row of lists. -/
theorem execStL {x v : Operand} {b k : Nat} {u old : Value} (ho : o.op = .store 26 x v) (hx : a.eval x = .pointer (some ⟨b, k, none⟩)) (hv : a.eval v = u) (hu : ∃ g n c, u = .slice g n c) (hc : w.cell? ⟨b, k, none⟩ = some old) (hf : w.frozen? ⟨b, k, none⟩ = false) : (execOp a.eval o).run Tryz.prog w = .ok .skip (w.setCell ⟨b, k, none⟩ u) := by
  obtain ⟨g, n, c, rfl⟩ := hu
  unfold execOp
  simp only [ho, hx, hv]
  simp [go_sem, hc, hf]
/-- pick where the value that is not taken does not matter. -/
theorem execPickT {x y z : Operand} {v : Value} (ho : o.op = .pick x y z) (hx : a.eval x = .bool true) (hy : a.eval y = v) : (execOp a.eval o).run Tryz.prog w = .ok (.value v) w := by
  unfold execOp
  simp only [ho, hx, hy]
  simp [go_sem]
theorem execPickF {x y z : Operand} {v : Value} (ho : o.op = .pick x y z) (hx : a.eval x = .bool false) (hz : a.eval z = v) : (execOp a.eval o).run Tryz.prog w = .ok (.value v) w := by
  unfold execOp
  simp only [ho, hx, hz]
  simp [go_sem]
end
end Go.Proofs.YtghnhfigihnciaaGreat.Cf
