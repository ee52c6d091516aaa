import Derived.Test.YtcibogmghagpoaaK9
namespace Go.Proofs.Ytcibogmghagpoaa
open Go.RowKit
/- A function with many slots, walked with its frame kept closed: regions in order or drawn, by what the slots hold. -/

theorem wpList_of_op {P : Program} {ops : Array Oper} {Q : Exit → Act → World → Prop} {j : Nat} {o : Oper} {a : Act} {w : World} {rest : List Oper} (ho : ops[j]? = some o) (h : wpOp P ops Q j (wpList P ops Q rest) a w) : wpList P ops Q (o :: rest) a w := by
  unfold wpOp at h
  rw [ho] at h
  exact h
/-- A region in its order that goes through states. -/
theorem wp_region_sq {P : Program} {ops : Array Oper} {Q : Exit → Act → World → Prop} {id : Nat} {a0 : Act} {V : World} {σ : Type} (N : Nat) (ds : List (Nat × Nat)) (S : Nat → σ → World → Prop) (v : σ → Nat → Value) (s0 : σ)
    (hN : a0.tmps.size = N) (hD : dsOf ops = ds) (hnd : (ds.map (·.2)).Nodup) (hds : ds.all (fun p => decide (p.2 < N)) = true) (h0 : S 0 s0 V)
    (step : ∀ j, j < ops.size → ∀ s a w, (∀ e, e ∉ ds.map (·.2) → a.eval (.tmp e) = a0.eval (.tmp e)) → (∀ i, i < j → ∀ q, ops[i]? = some q → ∀ d, q.dst = some d → a.eval (.tmp d) = v s i) → (∀ i, j ≤ i → ∀ q, ops[i]? = some q → ∀ d, q.dst = some d → a.eval (.tmp d) = a0.eval (.tmp d)) → S j s w →
      wpOp P ops Q j (fun a' w' => ∃ s', (∃ o, ops[j]? = some o ∧ a' = a.put o.dst (v s' j)) ∧ S (j + 1) s' w' ∧ ∀ i, i < j → v s' i = v s i) a w)
    (fin : ∀ s a w, a.tmps.size = N → a.defers = a0.defers → (∀ e, e ∉ ds.map (·.2) → a.eval (.tmp e) = a0.eval (.tmp e)) → (∀ i q, ops[i]? = some q → ∀ d, q.dst = some d → a.eval (.tmp d) = v s i) → S ops.size s w → Q .normal a w) : (Code.region id ops false).wp P Q a0 V := by
  subst hD
  have hds' : ∀ p ∈ dsOf ops, p.2 < N := fun p hp => by simpa using List.all_eq_true.1 hds p hp
  refine wp_region_list ?_
  have key : ∀ (l : List Oper) (k : Nat), ops.toList.drop k = l → k ≤ ops.size → ∀ s a w, a.tmps.size = N → a.defers = a0.defers → (∀ e, e ∉ (dsOf ops).map (·.2) → a.eval (.tmp e) = a0.eval (.tmp e)) → (∀ i, i < k → ∀ q, ops[i]? = some q → ∀ d, q.dst = some d → a.eval (.tmp d) = v s i) → (∀ i, k ≤ i → ∀ q, ops[i]? = some q → ∀ d, q.dst = some d → a.eval (.tmp d) = a0.eval (.tmp d)) → S k s w → wpList P ops Q l a w := by
    intro l
    induction l with
    | nil =>
      intro k hk hk2 s a w h1 h2 h3 h4 h7 h5
      have e : k = ops.size := by
        have := congrArg List.length hk
        simp at this
        omega
      subst e
      exact fin s a w h1 h2 h3 (fun i q hq => h4 i (Array.getElem?_eq_some_iff.1 hq).1 q hq) h5
    | cons o rest ih =>
      intro k hk hk2 s a w h1 h2 h3 h4 h7 h5
      have hlt : k < ops.size := by
        have := congrArg List.length hk
        simp at this
        omega
      have ho : ops[k]? = some o := by
        have := congrArg (fun l : List Oper => l[0]?) hk
        simpa [List.getElem?_drop] using this
      have hr : ops.toList.drop (k + 1) = rest := by
        have := congrArg List.tail hk
        simpa [List.tail_drop] using this
      refine wpList_of_op ho (wpOp_mono ?_ (step k hlt s a w h3 h4 h7 h5))
      rintro a' w' ⟨s', ⟨o', ho', rfl⟩, hS, hv⟩
      rw [ho] at ho'
      cases ho'
      refine ih (k + 1) hr (by omega) s' _ w' (by rw [put_size]; exact h1) ?_ ?_ ?_ ?_ hS
      · rw [← h2]; cases o.dst <;> rfl
      · intro e he
        cases hd : o.dst with
        | none => exact h3 e he
        | some d =>
          rw [put_other _ _ (fun q => he (by rw [← q]; exact List.mem_map.2 ⟨(k, d), mem_dsOf.2 ⟨o, ho, hd⟩, rfl⟩))]
          exact h3 e he
      · intro i hi q hq d hd
        by_cases e : i = k
        · subst e
          rw [ho] at hq
          cases hq
          rw [hd, put_same _ _ (by rw [h1]; exact hds' _ (mem_dsOf.2 ⟨o, ho, hd⟩))]
        · have h6 := h4 i (by omega) q hq d hd
          rw [hv i (by omega), ← h6]
          cases hd2 : o.dst with
          | none => rfl
          | some d' =>
            have hne : d' ≠ d := by
              intro q2
              subst q2
              exact e (inj2 _ hnd i k d' (mem_dsOf.2 ⟨q, hq, hd⟩) (mem_dsOf.2 ⟨o, ho, hd2⟩))
            rw [put_other _ _ hne]
      · intro i hi q hq d hd
        rw [← h7 i (by omega) q hq d hd]
        cases hd2 : o.dst with
        | none => rfl
        | some d' =>
          have hne : d' ≠ d := by
            intro q2
            subst q2
            have := inj2 _ hnd i k d' (mem_dsOf.2 ⟨q, hq, hd⟩) (mem_dsOf.2 ⟨o, ho, hd2⟩)
            omega
          rw [put_other _ _ hne]
  exact key ops.toList 0 (by simp) (by omega) s0 a0 V hN rfl (fun _ _ => rfl) (fun i hi => by omega) (fun _ _ _ _ _ _ => rfl) h0
/-- A region in its order whose values are known; the world stays. -/
theorem wp_region_sqK {P : Program} {ops : Array Oper} {Q : Exit → Act → World → Prop} {id : Nat} {a0 : Act} {V : World} (N : Nat) (ds : List (Nat × Nat)) (v : Nat → Value)
    (hN : a0.tmps.size = N) (hD : dsOf ops = ds) (hnd : (ds.map (·.2)).Nodup) (hds : ds.all (fun p => decide (p.2 < N)) = true)
    (step : ∀ j, j < ops.size → ∀ a, (∀ e, e ∉ ds.map (·.2) → a.eval (.tmp e) = a0.eval (.tmp e)) → (∀ i, i < j → ∀ q, ops[i]? = some q → ∀ d, q.dst = some d → a.eval (.tmp d) = v i) → (∀ i, j ≤ i → ∀ q, ops[i]? = some q → ∀ d, q.dst = some d → a.eval (.tmp d) = a0.eval (.tmp d)) → 
      wpOp P ops Q j (fun a' w' => (∃ o, ops[j]? = some o ∧ a' = a.put o.dst (v j)) ∧ w' = V) a V)
    (fin : ∀ a, a.tmps.size = N → a.defers = a0.defers → (∀ e, e ∉ ds.map (·.2) → a.eval (.tmp e) = a0.eval (.tmp e)) → (∀ i q, ops[i]? = some q → ∀ d, q.dst = some d → a.eval (.tmp d) = v i) → Q .normal a V) : (Code.region id ops false).wp P Q a0 V := by
  refine wp_region_sq (σ := Unit) N ds (fun _ _ w => w = V) (fun _ => v) () hN hD hnd hds rfl ?_ ?_
  · rintro j hj s a w hf hv hn rfl
    refine wpOp_mono ?_ (step j hj a hf hv hn)
    rintro a' w' ⟨h1, h2⟩
    exact ⟨(), h1, h2, fun _ _ => rfl⟩
  · rintro s a w h1 h2 h3 h4 rfl
    exact fin a h1 h2 h3 h4
/-- A region in its order whose values and worlds are known. -/
theorem wp_region_sqW {P : Program} {ops : Array Oper} {Q : Exit → Act → World → Prop} {id : Nat} {a0 : Act} (N : Nat) (ds : List (Nat × Nat)) (v : Nat → Value) (ws : Nat → World)
    (hN : a0.tmps.size = N) (hD : dsOf ops = ds) (hnd : (ds.map (·.2)).Nodup) (hds : ds.all (fun p => decide (p.2 < N)) = true)
    (step : ∀ j, j < ops.size → ∀ a, (∀ e, e ∉ ds.map (·.2) → a.eval (.tmp e) = a0.eval (.tmp e)) → (∀ i, i < j → ∀ q, ops[i]? = some q → ∀ d, q.dst = some d → a.eval (.tmp d) = v i) → (∀ i, j ≤ i → ∀ q, ops[i]? = some q → ∀ d, q.dst = some d → a.eval (.tmp d) = a0.eval (.tmp d)) → 
      wpOp P ops Q j (fun a' w' => (∃ o, ops[j]? = some o ∧ a' = a.put o.dst (v j)) ∧ w' = ws (j + 1)) a (ws j))
    (fin : ∀ a, a.tmps.size = N → a.defers = a0.defers → (∀ e, e ∉ ds.map (·.2) → a.eval (.tmp e) = a0.eval (.tmp e)) → (∀ i q, ops[i]? = some q → ∀ d, q.dst = some d → a.eval (.tmp d) = v i) → Q .normal a (ws ops.size)) : (Code.region id ops false).wp P Q a0 (ws 0) := by
  refine wp_region_sq (σ := Unit) N ds (fun j _ w => w = ws j) (fun _ => v) () hN hD hnd hds rfl ?_ ?_
  · rintro j hj s a w hf hv hn rfl
    refine wpOp_mono ?_ (step j hj a hf hv hn)
    rintro a' w' ⟨h1, h2⟩
    exact ⟨(), h1, h2, fun _ _ => rfl⟩
  · rintro s a w h1 h2 h3 h4 rfl
    exact fin a h1 h2 h3 h4
theorem exit_in {id : Nat} {Q : Exit → Act → World → Prop} {a : Act} {w : World} (h : Q .normal a w) : Exit.inBlock id Q (.exit id) a w := by
  simp only [Exit.inBlock, if_true]
  exact h
theorem exit_then {id : Nat} {K : Act → World → Prop} {Q : Exit → Act → World → Prop} {a : Act} {w : World} (h : Q (.exit id) a w) : Exit.then K Q (.exit id) a w := h
/-- The region that a code begins with. -/
def leadR : Code → Nat → Bool
  | .seq x _, k => leadR x k
  | .region id _ _, k => Nat.beq id k
  | _, _ => false
/-- What stands from region k on. -/
def fromR (k : Nat) : Code → Code
  | .seq x y => bif leadR x k then .seq x y else fromR k y
  | c => c
end Go.Proofs.Ytcibogmghagpoaa
