import Derived.Test.YteekoabgbjbabaaGreatDoorK7
namespace Go.Proofs.YteekoabgbjbabaaGreatDoor
open Go.RowKit
/- A drawn region whose operations yield values that are found on the way. -/

theorem wp_region_detX {P : Program} {ops : Array Oper} {Q : Exit → Act → World → Prop} {id : Nat} {a0 : Act} {V : World} (N : Nat) (ds : List (Nat × Nat)) (T : (Nat → Bool) → (Nat → Value) → World → Prop) (x0 : Nat → Value)
    (hm : P.follows .mixedOrders = true) (hf : frontB .any ops = true) (hN : a0.tmps.size = N) (hD : dsOf ops = ds) (hnd : (ds.map (·.2)).Nodup) (hds : ds.all (fun p => decide (p.2 < N)) = true)
    (h0 : T (fun _ => false) x0 V.drew)
    (step : ∀ j, j < ops.size → ∀ l x a w, l j = false → (∀ e, e ∉ ds.map (·.2) → a.eval (.tmp e) = a0.eval (.tmp e)) → (∀ o, ops[j]? = some o → ∀ i, waits o i = true → ∀ q, ops[i]? = some q → ∀ d, q.dst = some d → a.eval (.tmp d) = x i) →
      (∀ o, ops[j]? = some o → ∀ i, waits o i = true → l i = true) → (∀ i q, ops[i]? = some q → l i = true → ∀ m, waits q m = true → l m = true) → (∀ i q, ops[i]? = some q → ∀ d, q.dst = some d → l i = false → a.eval (.tmp d) = a0.eval (.tmp d)) → T l x w → wpOp P ops Q j (fun a' w' => ∃ v, (∃ o, ops[j]? = some o ∧ a' = a.put o.dst v) ∧ T (updB l j) (updS x j v) w') a w)
    (fin : ∀ l x w, (∀ j, j < ops.size → l j = true) → T l x w → Q .normal (putP a0 x ds) w) : (Code.region id ops true).wp P Q a0 V := by
  subst hD
  have hds' : ∀ p ∈ dsOf ops, p.2 < N := fun p hp => by simpa using List.all_eq_true.1 hds p hp
  refine wp_region_inv (fun listed a w => listed.size = ops.size ∧ DC .any ops listed ∧ a.tmps.size = N ∧ a.defers = a0.defers ∧ ∃ x : Nat → Value, (∀ e, e ∉ (dsOf ops).map (·.2) → a.eval (.tmp e) = a0.eval (.tmp e)) ∧
    (∀ p, p ∈ dsOf ops → listed.getD p.1 false = true → a.eval (.tmp p.2) = x p.1) ∧ (∀ p, p ∈ dsOf ops → listed.getD p.1 false = false → a.eval (.tmp p.2) = a0.eval (.tmp p.2)) ∧ T (fun i => listed.getD i false) x w) hm hf ?_ (fun _ _ _ h => h.1) ?_ ?_
  · refine ⟨by simp, ?_, hN, rfl, x0, fun _ _ => rfl, ?_, fun _ _ _ => rfl, ?_⟩
    · intro j o ho hl
      have hj : j < ops.size := (Array.getElem?_eq_some_iff.1 ho).1
      simp [hj] at hl
    · rintro ⟨j, d⟩ hp hl
      obtain ⟨o, ho, _⟩ := mem_dsOf.1 hp
      have hj : j < ops.size := (Array.getElem?_eq_some_iff.1 ho).1
      simp [hj] at hl
    · have e : (fun i => (Array.replicate ops.size false).getD i false) = fun _ => false := by
        funext i
        by_cases hi : i < ops.size <;> simp [hi]
      rw [e]
      exact h0
  · rintro listed a w ⟨hs, hdc, ha, had, x, hfr, hv, hno, hT⟩ j o ho hun hdep
    have hj : j < ops.size := (Array.getElem?_eq_some_iff.1 ho).1
    have hun' : listed.getD j false = false := by
      have hl : j < listed.size := by omega
      simp [hl] at hun ⊢
      exact hun
    have hdc' : DC .any ops (listed.setIfInBounds j true) := by
      intro i oi hoi hl e he hb
      by_cases eij : i = j
      · subst eij
        rw [ho] at hoi
        cases hoi
        have := hdep e he hb
        by_cases ee : i = e.on
        · rw [← ee]; simp [hs, hj]
        · rw [getD_set_ne false ee]; exact this
      · rw [getD_set_ne false (fun x => eij x.symm)] at hl
        have := hdc i oi hoi hl e he hb
        by_cases ee : j = e.on
        · rw [← ee]; simp [hs, hj]
        · rw [getD_set_ne false ee]; exact this
    have hcl : ∀ i q, ops[i]? = some q → listed.getD i false = true → ∀ m, waits q m = true → listed.getD m false = true := by
      intro i q hq hli m hm
      unfold waits at hm
      rw [List.any_eq_true] at hm
      obtain ⟨e, he, hh⟩ := hm
      simp only [Bool.and_eq_true, beq_iff_eq] at hh
      rw [← hh.2]
      exact hdc i q hq hli e (by simpa using he) hh.1
    have hw : ∀ i, waits o i = true → listed.getD i false = true := by
      intro i hi
      unfold waits at hi
      rw [List.any_eq_true] at hi
      obtain ⟨e, he, hh⟩ := hi
      simp only [Bool.and_eq_true, beq_iff_eq] at hh
      rw [← hh.2]
      exact hdep e (by simpa using he) hh.1
    refine wpOp_mono ?_ (step j hj _ x a w hun' hfr (fun o' ho' i hi q hq d hd => hv (i, d) (mem_dsOf.2 ⟨q, hq, hd⟩) (hw i (by rw [ho] at ho'; cases ho'; exact hi))) (fun o' ho' i hi => hw i (by rw [ho] at ho'; cases ho'; exact hi)) hcl (fun i q hq d hd hli => hno (i, d) (mem_dsOf.2 ⟨q, hq, hd⟩) hli) hT)
    rintro a' w' ⟨v, ⟨o', ho', rfl⟩, hT'⟩
    rw [ho] at ho'
    cases ho'
    refine ⟨by simpa using hs, hdc', by rw [put_size]; exact ha, ?_, updS x j v, ?_, ?_, ?_, ?_⟩
    · rw [← had]; cases o.dst <;> rfl
    · intro e he
      cases hd : o.dst with
      | none => exact hfr e he
      | some d =>
        rw [put_other _ _ (fun q => he (by rw [← q]; exact List.mem_map.2 ⟨(j, d), mem_dsOf.2 ⟨o, ho, hd⟩, rfl⟩))]
        exact hfr e he
    · rintro ⟨i, d⟩ hp hl
      by_cases e : i = j
      · subst e
        obtain ⟨o', ho', hd⟩ := mem_dsOf.1 hp
        rw [ho] at ho'
        cases ho'
        rw [hd, put_same _ _ (by rw [ha]; exact hds' _ hp)]
        simp [updS]
      · rw [getD_set_ne false (fun y => e y.symm)] at hl
        have hq : a.eval (.tmp d) = updS x j v i := by rw [hv (i, d) hp hl]; simp [updS, e]
        cases hd : o.dst with
        | none => exact hq
        | some d' =>
          have hne : d' ≠ d := by
            intro q
            subst q
            have hp2 : (j, d') ∈ dsOf ops := mem_dsOf.2 ⟨o, ho, hd⟩
            exact e (inj2 _ hnd i j d' hp hp2)
          rw [put_other _ _ hne]
          exact hq
    · rintro ⟨i, d⟩ hp hl
      have e : i ≠ j := by
        intro e
        subst e
        have hli : i < listed.size := by omega
        simp [hli] at hl
      rw [getD_set_ne false (fun y => e y.symm)] at hl
      have hq := hno (i, d) hp hl
      cases hd : o.dst with
      | none => exact hq
      | some d' =>
        have hne : d' ≠ d := by
          intro q
          subst q
          have hp2 : (j, d') ∈ dsOf ops := mem_dsOf.2 ⟨o, ho, hd⟩
          exact e (inj2 _ hnd i j d' hp hp2)
        rw [put_other _ _ hne]
        exact hq
    · have e : (fun i => (listed.setIfInBounds j true).getD i false) = updB (fun i => listed.getD i false) j := by
        funext i
        unfold updB
        by_cases hij : i = j
        · subst hij
          rw [if_pos rfl]
          have hl : i < listed.size := by omega
          simp [hl]
        · rw [if_neg hij, getD_set_ne false (fun y => hij y.symm)]
      rw [e]
      exact hT'
  · rintro listed a w ⟨hs, _, ha, had, x, hfr, hv, _, hT⟩ hall
    have hall' : ∀ j, j < ops.size → listed.getD j false = true := fun j hj => by
      have hl : j < listed.size := by omega
      have := hall j hj
      simp [hl] at this ⊢
      exact this
    have ea : a = putP a0 x (dsOf ops) := by
      refine act_ext (by rw [putP_size, ha, hN]) (by rw [putP_defers, had]) fun e => ?_
      by_cases he : e ∈ (dsOf ops).map (·.2)
      · obtain ⟨p, hp, rfl⟩ := List.mem_map.1 he
        obtain ⟨o, ho, _⟩ := mem_dsOf.1 (show (p.1, p.2) ∈ dsOf ops from hp)
        rw [hv p hp (hall' _ (Array.getElem?_eq_some_iff.1 ho).1), putP_same x _ a0 hnd (fun q hq => by rw [hN]; exact hds' q hq) p hp]
      · rw [hfr e he, putP_other x _ _ he]
    rw [ea]
    exact fin _ x w hall' hT
end Go.Proofs.YteekoabgbjbabaaGreatDoor

namespace Go.Proofs.YteekoabgbjbabaaGreatDoor
open Go.RowKit
/- A function with many slots, walked with its frame kept closed: regions in order or drawn, by what the slots hold. -/

theorem wpList_of_op {P : Program} {ops : Array Oper} {Q : Exit → Act → World → Prop} {j : Nat} {o : Oper} {a : Act} {w : World} {rest : List Oper} (ho : ops[j]? = some o) (h : wpOp P ops Q j (wpList P ops Q rest) a w) : wpList P ops Q (o :: rest) a w := by
  unfold wpOp at h
  rw [ho] at h
  exact h
/-- A region in its order that goes through states. -/
theorem wp_region_sq {P : Program} {ops : Array Oper} {Q : Exit → Act → World → Prop} {id : Nat} {a0 : Act} {V : World} {σ : Type} (N : Nat) (ds : List (Nat × Nat)) (S : Nat → σ → World → Prop) (v : σ → Nat → Value) (s0 : σ)
    (hN : a0.tmps.size = N) (hD : dsOf ops = ds) (hnd : (ds.map (·.2)).Nodup) (hds : ds.all (fun p => decide (p.2 < N)) = true) (h0 : S 0 s0 V)
    (step : ∀ j, j < ops.size → ∀ s a w, (∀ e, e ∉ ds.map (·.2) → a.eval (.tmp e) = a0.eval (.tmp e)) → (∀ i, i < j → ∀ q, ops[i]? = some q → ∀ d, q.dst = some d → a.eval (.tmp d) = v s i) → (∀ i, j ≤ i → ∀ q, ops[i]? = some q → ∀ d, q.dst = some d → a.eval (.tmp d) = a0.eval (.tmp d)) → S j s w →
      wpOp P ops Q j (fun a' w' => ∃ s', (∃ o, ops[j]? = some o ∧ a' = a.put o.dst (v s' j)) ∧ S (j + 1) s' w' ∧ ∀ i, i < j → v s' i = v s i) a w)
    (fin : ∀ s a w, a.tmps.size = N → a.defers = a0.defers → (∀ e, e ∉ ds.map (·.2) → a.eval (.tmp e) = a0.eval (.tmp e)) → (∀ i q, ops[i]? = some q → ∀ d, q.dst = some d → a.eval (.tmp d) = v s i) → S ops.size s w → Q .normal a w) : (Code.region id ops false).wp P Q a0 V := by
  subst hD
  have hds' : ∀ p ∈ dsOf ops, p.2 < N := fun p hp => by simpa using List.all_eq_true.1 hds p hp
  refine wp_region_list ?_
  have key : ∀ (l : List Oper) (k : Nat), ops.toList.drop k = l → k ≤ ops.size → ∀ s a w, a.tmps.size = N → a.defers = a0.defers → (∀ e, e ∉ (dsOf ops).map (·.2) → a.eval (.tmp e) = a0.eval (.tmp e)) → (∀ i, i < k → ∀ q, ops[i]? = some q → ∀ d, q.dst = some d → a.eval (.tmp d) = v s i) → (∀ i, k ≤ i → ∀ q, ops[i]? = some q → ∀ d, q.dst = some d → a.eval (.tmp d) = a0.eval (.tmp d)) → S k s w → wpList P ops Q l a w := by
    intro l
    induction l with
    | nil =>
      intro k hk hk2 s a w h1 h2 h3 h4 h7 h5
      have e : k = ops.size := by
        have := congrArg List.length hk
        simp at this
        omega
      subst e
      exact fin s a w h1 h2 h3 (fun i q hq => h4 i (Array.getElem?_eq_some_iff.1 hq).1 q hq) h5
    | cons o rest ih =>
      intro k hk hk2 s a w h1 h2 h3 h4 h7 h5
      have hlt : k < ops.size := by
        have := congrArg List.length hk
        simp at this
        omega
      have ho : ops[k]? = some o := by
        have := congrArg (fun l : List Oper => l[0]?) hk
        simpa [List.getElem?_drop] using this
      have hr : ops.toList.drop (k + 1) = rest := by
        have := congrArg List.tail hk
        simpa [List.tail_drop] using this
      refine wpList_of_op ho (wpOp_mono ?_ (step k hlt s a w h3 h4 h7 h5))
      rintro a' w' ⟨s', ⟨o', ho', rfl⟩, hS, hv⟩
      rw [ho] at ho'
      cases ho'
      refine ih (k + 1) hr (by omega) s' _ w' (by rw [put_size]; exact h1) ?_ ?_ ?_ ?_ hS
      · rw [← h2]; cases o.dst <;> rfl
      · intro e he
        cases hd : o.dst with
        | none => exact h3 e he
        | some d =>
          rw [put_other _ _ (fun q => he (by rw [← q]; exact List.mem_map.2 ⟨(k, d), mem_dsOf.2 ⟨o, ho, hd⟩, rfl⟩))]
          exact h3 e he
      · intro i hi q hq d hd
        by_cases e : i = k
        · subst e
          rw [ho] at hq
          cases hq
          rw [hd, put_same _ _ (by rw [h1]; exact hds' _ (mem_dsOf.2 ⟨o, ho, hd⟩))]
        · have h6 := h4 i (by omega) q hq d hd
          rw [hv i (by omega), ← h6]
          cases hd2 : o.dst with
          | none => rfl
          | some d' =>
            have hne : d' ≠ d := by
              intro q2
              subst q2
              exact e (inj2 _ hnd i k d' (mem_dsOf.2 ⟨q, hq, hd⟩) (mem_dsOf.2 ⟨o, ho, hd2⟩))
            rw [put_other _ _ hne]
      · intro i hi q hq d hd
        rw [← h7 i (by omega) q hq d hd]
        cases hd2 : o.dst with
        | none => rfl
        | some d' =>
          have hne : d' ≠ d := by
            intro q2
            subst q2
            have := inj2 _ hnd i k d' (mem_dsOf.2 ⟨q, hq, hd⟩) (mem_dsOf.2 ⟨o, ho, hd2⟩)
            omega
          rw [put_other _ _ hne]
  exact key ops.toList 0 (by simp) (by omega) s0 a0 V hN rfl (fun _ _ => rfl) (fun i hi => by omega) (fun _ _ _ _ _ _ => rfl) h0
theorem exit_in {id : Nat} {Q : Exit → Act → World → Prop} {a : Act} {w : World} (h : Q .normal a w) : Exit.inBlock id Q (.exit id) a w := by
  simp only [Exit.inBlock, if_true]
  exact h
theorem exit_then {id : Nat} {K : Act → World → Prop} {Q : Exit → Act → World → Prop} {a : Act} {w : World} (h : Q (.exit id) a w) : Exit.then K Q (.exit id) a w := h
/-- The region that a code begins with. -/
def leadR : Code → Nat → Bool
  | .seq x _, k => leadR x k
  | .region id _ _, k => Nat.beq id k
  | _, _ => false
end Go.Proofs.YteekoabgbjbabaaGreatDoor
