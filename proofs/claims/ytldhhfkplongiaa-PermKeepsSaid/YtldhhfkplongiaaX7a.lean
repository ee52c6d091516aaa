import Derived.Test.YtldhhfkplongiaaK9
namespace Go.Proofs.Ytldhhfkplongiaa
open Go.RowKit
/- A drawn region that goes through states: the values that have come up are told by the state. -/

theorem putP_congr {x y : Nat → Value} : ∀ (ds : List (Nat × Nat)) (a : Act), (∀ p ∈ ds, x p.1 = y p.1) → putP a x ds = putP a y ds
  | [], _, _ => rfl
  | p :: ds, a, h => by
    show putP (a.put (some p.2) (x p.1)) x ds = putP (a.put (some p.2) (y p.1)) y ds
    rw [h p (by simp)]
    exact putP_congr ds _ fun q hq => h q (by simp [hq])
theorem wp_region_st {P : Program} {ops : Array Oper} {Q : Exit → Act → World → Prop} {id : Nat} {a0 : Act} {V : World} {σ : Type} (N : Nat) (ds : List (Nat × Nat)) (S : (Nat → Bool) → σ → World → Prop) (v : σ → Nat → Value) (s0 : σ)
    (hm : P.follows .mixedOrders = true) (hf : frontB .any ops = true) (hN : a0.tmps.size = N) (hD : dsOf ops = ds) (hnd : (ds.map (·.2)).Nodup) (hds : ds.all (fun p => decide (p.2 < N)) = true)
    (h0 : S (fun _ => false) s0 V.drew)
    (step : ∀ j, j < ops.size → ∀ l s a w, l j = false → (∀ e, e ∉ ds.map (·.2) → a.eval (.tmp e) = a0.eval (.tmp e)) → (∀ o, ops[j]? = some o → ∀ i, waits o i = true → ∀ q, ops[i]? = some q → ∀ d, q.dst = some d → a.eval (.tmp d) = v s i) →
      (∀ o, ops[j]? = some o → ∀ i, waits o i = true → l i = true) → (∀ i q, ops[i]? = some q → l i = true → ∀ m, waits q m = true → l m = true) → S l s w → wpOp P ops Q j (fun a' w' => ∃ s', (∃ o, ops[j]? = some o ∧ a' = a.put o.dst (v s' j)) ∧ S (updB l j) s' w' ∧ ∀ i, i < ops.size → l i = true → v s' i = v s i) a w)
    (fin : ∀ l s w, (∀ j, j < ops.size → l j = true) → S l s w → Q .normal (putP a0 (v s) ds) w) : (Code.region id ops true).wp P Q a0 V := by
  refine wp_region_detX N ds (fun l x w => ∃ s, S l s w ∧ ∀ i, i < ops.size → l i = true → x i = v s i) (fun _ => undef) hm hf hN hD hnd hds ⟨s0, h0, fun _ _ h => by cases h⟩ ?_ ?_
  · rintro j hj l x a w hl hfr hdep hl2 hcl _ ⟨s, hS, hx⟩
    refine wpOp_mono ?_ (step j hj l s a w hl hfr (fun o ho i hi q hq d hd => by rw [hdep o ho i hi q hq d hd]; exact hx i (Array.getElem?_eq_some_iff.1 hq).1 (hl2 o ho i hi)) hl2 hcl hS)
    rintro a' w' ⟨s', ho, hS', hv⟩
    refine ⟨v s' j, ho, s', hS', fun i hi h => ?_⟩
    unfold updS
    by_cases e : i = j
    · subst e; simp
    · have hli : l i = true := by
        unfold updB at h
        simpa [e] using h
      simp only [e, if_false]
      rw [hx i hi hli, hv i hi hli]
  · rintro l x w hall ⟨s, hS, hx⟩
    have e : putP a0 x ds = putP a0 (v s) ds := putP_congr ds a0 fun p hp => by
      subst hD
      obtain ⟨o, ho, _⟩ := mem_dsOf.1 (show (p.1, p.2) ∈ dsOf ops from hp)
      have hj := (Array.getElem?_eq_some_iff.1 ho).1
      exact hx _ hj (hall _ hj)
    rw [e]
    exact fin l s w hall hS
end Go.Proofs.Ytldhhfkplongiaa
