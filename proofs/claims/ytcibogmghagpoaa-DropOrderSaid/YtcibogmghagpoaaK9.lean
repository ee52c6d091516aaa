import Derived.Test.YtcibogmghagpoaaK7
namespace Go.Proofs.Ytcibogmghagpoaa
open Go.RowKit
/- A drawn region whose operations yield values that are found on the way. -/

theorem wp_region_detX {P : Program} {ops : Array Oper} {Q : Exit → Act → World → Prop} {id : Nat} {a0 : Act} {V : World} (N : Nat) (ds : List (Nat × Nat)) (T : (Nat → Bool) → (Nat → Value) → World → Prop) (x0 : Nat → Value)
    (hm : P.follows .mixedOrders = true) (hf : frontB .any ops = true) (hN : a0.tmps.size = N) (hD : dsOf ops = ds) (hnd : (ds.map (·.2)).Nodup) (hds : ds.all (fun p => decide (p.2 < N)) = true)
    (h0 : T (fun _ => false) x0 V.drew)
    (step : ∀ j, j < ops.size → ∀ l x a w, l j = false → (∀ e, e ∉ ds.map (·.2) → a.eval (.tmp e) = a0.eval (.tmp e)) → (∀ o, ops[j]? = some o → ∀ i, waits o i = true → ∀ q, ops[i]? = some q → ∀ d, q.dst = some d → a.eval (.tmp d) = x i) →
      (∀ o, ops[j]? = some o → ∀ i, waits o i = true → l i = true) → (∀ i q, ops[i]? = some q → l i = true → ∀ m, waits q m = true → l m = true) → (∀ i q, ops[i]? = some q → ∀ d, q.dst = some d → l i = false → a.eval (.tmp d) = a0.eval (.tmp d)) → T l x w → wpOp P ops Q j (fun a' w' => ∃ v, (∃ o, ops[j]? = some o ∧ a' = a.put o.dst v) ∧ T (updB l j) (updS x j v) w') a w)
    (fin : ∀ l x w, (∀ j, j < ops.size → l j = true) → T l x w → Q .normal (putP a0 x ds) w) : (Code.region id ops true).wp P Q a0 V := by
  subst hD
  have hds' : ∀ p ∈ dsOf ops, p.2 < N := fun p hp => by simpa using List.all_eq_true.1 hds p hp
  refine wp_region_inv (fun listed a w => listed.size = ops.size ∧ DC .any ops listed ∧ a.tmps.size = N ∧ a.defers = a0.defers ∧ ∃ x : Nat → Value, (∀ e, e ∉ (dsOf ops).map (·.2) → a.eval (.tmp e) = a0.eval (.tmp e)) ∧
    (∀ p, p ∈ dsOf ops → listed.getD p.1 false = true → a.eval (.tmp p.2) = x p.1) ∧ (∀ p, p ∈ dsOf ops → listed.getD p.1 false = false → a.eval (.tmp p.2) = a0.eval (.tmp p.2)) ∧ T (fun i => listed.getD i false) x w) hm hf ?_ (fun _ _ _ h => h.1) ?_ ?_
  · refine ⟨by simp, ?_, hN, rfl, x0, fun _ _ => rfl, ?_, fun _ _ _ => rfl, ?_⟩
    · intro j o ho hl
      have hj : j < ops.size := (Array.getElem?_eq_some_iff.1 ho).1
      simp [hj] at hl
    · rintro ⟨j, d⟩ hp hl
      obtain ⟨o, ho, _⟩ := mem_dsOf.1 hp
      have hj : j < ops.size := (Array.getElem?_eq_some_iff.1 ho).1
      simp [hj] at hl
    · have e : (fun i => (Array.replicate ops.size false).getD i false) = fun _ => false := by
        funext i
        by_cases hi : i < ops.size <;> simp [hi]
      rw [e]
      exact h0
  · rintro listed a w ⟨hs, hdc, ha, had, x, hfr, hv, hno, hT⟩ j o ho hun hdep
    have hj : j < ops.size := (Array.getElem?_eq_some_iff.1 ho).1
    have hun' : listed.getD j false = false := by
      have hl : j < listed.size := by omega
      simp [hl] at hun ⊢
      exact hun
    have hdc' : DC .any ops (listed.setIfInBounds j true) := by
      intro i oi hoi hl e he hb
      by_cases eij : i = j
      · subst eij
        rw [ho] at hoi
        cases hoi
        have := hdep e he hb
        by_cases ee : i = e.on
        · rw [← ee]; simp [hs, hj]
        · rw [getD_set_ne false ee]; exact this
      · rw [getD_set_ne false (fun x => eij x.symm)] at hl
        have := hdc i oi hoi hl e he hb
        by_cases ee : j = e.on
        · rw [← ee]; simp [hs, hj]
        · rw [getD_set_ne false ee]; exact this
    have hcl : ∀ i q, ops[i]? = some q → listed.getD i false = true → ∀ m, waits q m = true → listed.getD m false = true := by
      intro i q hq hli m hm
      unfold waits at hm
      rw [List.any_eq_true] at hm
      obtain ⟨e, he, hh⟩ := hm
      simp only [Bool.and_eq_true, beq_iff_eq] at hh
      rw [← hh.2]
      exact hdc i q hq hli e (by simpa using he) hh.1
    have hw : ∀ i, waits o i = true → listed.getD i false = true := by
      intro i hi
      unfold waits at hi
      rw [List.any_eq_true] at hi
      obtain ⟨e, he, hh⟩ := hi
      simp only [Bool.and_eq_true, beq_iff_eq] at hh
      rw [← hh.2]
      exact hdep e (by simpa using he) hh.1
    refine wpOp_mono ?_ (step j hj _ x a w hun' hfr (fun o' ho' i hi q hq d hd => hv (i, d) (mem_dsOf.2 ⟨q, hq, hd⟩) (hw i (by rw [ho] at ho'; cases ho'; exact hi))) (fun o' ho' i hi => hw i (by rw [ho] at ho'; cases ho'; exact hi)) hcl (fun i q hq d hd hli => hno (i, d) (mem_dsOf.2 ⟨q, hq, hd⟩) hli) hT)
    rintro a' w' ⟨v, ⟨o', ho', rfl⟩, hT'⟩
    rw [ho] at ho'
    cases ho'
    refine ⟨by simpa using hs, hdc', by rw [put_size]; exact ha, ?_, updS x j v, ?_, ?_, ?_, ?_⟩
    · rw [← had]; cases o.dst <;> rfl
    · intro e he
      cases hd : o.dst with
      | none => exact hfr e he
      | some d =>
        rw [put_other _ _ (fun q => he (by rw [← q]; exact List.mem_map.2 ⟨(j, d), mem_dsOf.2 ⟨o, ho, hd⟩, rfl⟩))]
        exact hfr e he
    · rintro ⟨i, d⟩ hp hl
      by_cases e : i = j
      · subst e
        obtain ⟨o', ho', hd⟩ := mem_dsOf.1 hp
        rw [ho] at ho'
        cases ho'
        rw [hd, put_same _ _ (by rw [ha]; exact hds' _ hp)]
        simp [updS]
      · rw [getD_set_ne false (fun y => e y.symm)] at hl
        have hq : a.eval (.tmp d) = updS x j v i := by rw [hv (i, d) hp hl]; simp [updS, e]
        cases hd : o.dst with
        | none => exact hq
        | some d' =>
          have hne : d' ≠ d := by
            intro q
            subst q
            have hp2 : (j, d') ∈ dsOf ops := mem_dsOf.2 ⟨o, ho, hd⟩
            exact e (inj2 _ hnd i j d' hp hp2)
          rw [put_other _ _ hne]
          exact hq
    · rintro ⟨i, d⟩ hp hl
      have e : i ≠ j := by
        intro e
        subst e
        have hli : i < listed.size := by omega
        simp [hli] at hl
      rw [getD_set_ne false (fun y => e y.symm)] at hl
      have hq := hno (i, d) hp hl
      cases hd : o.dst with
      | none => exact hq
      | some d' =>
        have hne : d' ≠ d := by
          intro q
          subst q
          have hp2 : (j, d') ∈ dsOf ops := mem_dsOf.2 ⟨o, ho, hd⟩
          exact e (inj2 _ hnd i j d' hp hp2)
        rw [put_other _ _ hne]
        exact hq
    · have e : (fun i => (listed.setIfInBounds j true).getD i false) = updB (fun i => listed.getD i false) j := by
        funext i
        unfold updB
        by_cases hij : i = j
        · subst hij
          rw [if_pos rfl]
          have hl : i < listed.size := by omega
          simp [hl]
        · rw [if_neg hij, getD_set_ne false (fun y => hij y.symm)]
      rw [e]
      exact hT'
  · rintro listed a w ⟨hs, _, ha, had, x, hfr, hv, _, hT⟩ hall
    have hall' : ∀ j, j < ops.size → listed.getD j false = true := fun j hj => by
      have hl : j < listed.size := by omega
      have := hall j hj
      simp [hl] at this ⊢
      exact this
    have ea : a = putP a0 x (dsOf ops) := by
      refine act_ext (by rw [putP_size, ha, hN]) (by rw [putP_defers, had]) fun e => ?_
      by_cases he : e ∈ (dsOf ops).map (·.2)
      · obtain ⟨p, hp, rfl⟩ := List.mem_map.1 he
        obtain ⟨o, ho, _⟩ := mem_dsOf.1 (show (p.1, p.2) ∈ dsOf ops from hp)
        rw [hv p hp (hall' _ (Array.getElem?_eq_some_iff.1 ho).1), putP_same x _ a0 hnd (fun q hq => by rw [hN]; exact hds' q hq) p hp]
      · rw [hfr e he, putP_other x _ _ he]
    rw [ea]
    exact fin _ x w hall' hT
end Go.Proofs.Ytcibogmghagpoaa
