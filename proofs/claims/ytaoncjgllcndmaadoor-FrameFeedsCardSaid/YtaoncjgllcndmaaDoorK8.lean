import Derived.Test.YtaoncjgllcndmaaDoorK2
namespace Go.Proofs.YtaoncjgllcndmaaDoor
open Go.RowKit

/-- THE SAME WITH A RELATION D BETWEEN ANY TWO OF THEM: that two rows made here are not one. -/
theorem wp_region_slotsD {P : Program} {ops : Array Oper} {Q : Exit → Act → World → Prop} {id : Nat} {a0 : Act} {V : World} (n : Nat) (fr : (Nat → Value) → Act) (S : Nat → Value → World → Prop) (D : Nat → Nat → Value → Value → Prop)
    (hm : P.follows .mixedOrders = true) (hf : frontB .any ops = true) (hch : chainB .any ops n = true) (hn : n ≤ ops.size)
    (mono : ∀ j v w w', S j v w → Below w.heap.size w w' → S j v w')
    (x0 : Nat → Value) (h0 : a0 = fr x0)
    (step : ∀ j, j < n → ∀ x w, Below V.heap.size V w → (∀ o, ops[j]? = some o → ∀ i, waits o i = true → S i (x i) w) → wpOp P ops Q j (fun a' w' => ∃ v, a' = fr (updS x j v) ∧ S j v w' ∧ Below w.heap.size w w' ∧ ∀ i, i < n → i ≠ j → S i (x i) w → (∀ o, ops[j]? = some o → ∀ k, waits o k = true → k ≠ i → D k i (x k) (x i) ∧ D i k (x i) (x k)) → D i j (x i) v ∧ D j i v (x i)) (fr x) w)
    (rest : ∀ x w, Below V.heap.size V w → (∀ i, i < n → S i (x i) w) → (∀ i j, i < n → j < n → i ≠ j → D i j (x i) (x j)) → wpList P ops Q (ops.toList.drop n) (fr x) w) : (Code.region id ops true).wp P Q a0 V := by
  subst h0
  have fin : ∀ (listed : Array Bool) (j : Nat), j < listed.size → (listed.getD j true = listed.getD j false) := by
    intro l j hj; simp [hj]
  refine wp_region_inv (fun listed a w => listed.size = ops.size ∧ DC .any ops listed ∧
    ((∃ x, a = fr x ∧ Below V.heap.size V w ∧ (∀ j, j < n → listed.getD j false = true → S j (x j) w) ∧ (∀ i j, i < n → j < n → i ≠ j → listed.getD i false = true → listed.getD j false = true → D i j (x i) (x j)) ∧ (∀ j, n ≤ j → j < ops.size → listed.getD j false = false)) ∨
     (∃ k, n ≤ k ∧ k ≤ ops.size ∧ (∀ j, j < ops.size → (listed.getD j false = true ↔ j < k)) ∧ wpList P ops Q (ops.toList.drop k) a w))) hm hf ?_ (fun _ _ _ h => h.1) ?_ ?_
  · refine ⟨by simp, ?_, Or.inl ⟨x0, rfl, (Below.refl _ _).drew, ?_, ?_, ?_⟩⟩
    · intro j o ho hl
      have hj : j < ops.size := (Array.getElem?_eq_some_iff.1 ho).1
      simp [hj] at hl
    · intro j hj hl
      have hj' : j < ops.size := by omega
      simp [hj'] at hl
    · intro i j hi hj _ hl
      have hi' : i < ops.size := by omega
      simp [hi'] at hl
    · intro j _ hj
      simp [hj]
  · rintro listed a w ⟨hs, hdc, hI⟩ j o ho hun hdep
    have hj : j < ops.size := (Array.getElem?_eq_some_iff.1 ho).1
    have hun' : listed.getD j false = false := by rw [← fin listed j (by omega)]; exact hun
    have hdc' : DC .any ops (listed.setIfInBounds j true) := by
      intro i oi hoi hl e he hb
      by_cases eij : i = j
      · subst eij
        rw [ho] at hoi
        cases hoi
        have := hdep e he hb
        by_cases ee : i = e.on
        · rw [← ee]; simp [hs, hj]
        · rw [getD_set_ne false ee]; exact this
      · rw [getD_set_ne false (fun x => eij x.symm)] at hl
        have := hdc i oi hoi hl e he hb
        by_cases ee : j = e.on
        · rw [← ee]; simp [hs, hj]
        · rw [getD_set_ne false ee]; exact this
    -- one of the chain comes up: all ahead of it have
    have chain : ∀ k, n ≤ k → k ≤ ops.size → (∀ i, i < ops.size → (listed.getD i false = true ↔ i < k)) → wpList P ops Q (ops.toList.drop k) a w → n ≤ j →
        wpOp P ops Q j (fun a' w' => (listed.setIfInBounds j true).size = ops.size ∧ DC .any ops (listed.setIfInBounds j true) ∧
          ((∃ x, a' = fr x ∧ Below V.heap.size V w' ∧ (∀ i, i < n → (listed.setIfInBounds j true).getD i false = true → S i (x i) w') ∧ (∀ i k, i < n → k < n → i ≠ k → (listed.setIfInBounds j true).getD i false = true → (listed.setIfInBounds j true).getD k false = true → D i k (x i) (x k)) ∧ (∀ i, n ≤ i → i < ops.size → (listed.setIfInBounds j true).getD i false = false)) ∨
           (∃ k, n ≤ k ∧ k ≤ ops.size ∧ (∀ i, i < ops.size → ((listed.setIfInBounds j true).getD i false = true ↔ i < k)) ∧ wpList P ops Q (ops.toList.drop k) a' w'))) a w := by
      intro k hk1 hk2 hk3 hk4 hnj
      have hjk : j = k := by
        rcases Nat.lt_trichotomy j k with h | h | h
        · have := (hk3 j hj).2 h; rw [this] at hun'; cases hun'
        · exact h
        · have := covers_spec hdc _ j k o ho hdep (chainB_spec hch hj hnj h)
          have := (hk3 k (by omega)).1 this
          omega
      subst hjk
      have hd : ops.toList.drop j = o :: ops.toList.drop (j + 1) := by
        have hlt : j < ops.toList.length := by simpa using hj
        rw [List.drop_eq_getElem_cons hlt]
        have : ops.toList[j] = o := by
          have := (Array.getElem?_eq_some_iff.1 ho).2
          simpa using this
        rw [this]
      rw [hd] at hk4
      have hop : wpOp P ops Q j (wpList P ops Q (ops.toList.drop (j + 1))) a w := by
        unfold wpOp
        rw [ho]
        simp only [wpList] at hk4
        exact hk4
      refine wpOp_mono (fun a' w' h => ⟨by simpa using hs, hdc', Or.inr ⟨j + 1, by omega, by omega, ?_, h⟩⟩) hop
      intro i hi
      by_cases e : j = i
      · subst e; simp [hs, hj]
      · rw [getD_set_ne false e, hk3 i hi]; omega
    rcases hI with ⟨x, rfl, hB, hS, hD, hno⟩ | ⟨k, hk1, hk2, hk3, hk4⟩
    · by_cases hjn : j < n
      · refine wpOp_mono ?_ (step j hjn x w hB (fun o' ho' i hi => ?_))
        · rintro a' w' ⟨v, rfl, hSj, hbl, hDj⟩
          have hw : ∀ i, i < n → listed.getD i false = true → ∀ o, ops[j]? = some o → ∀ k, waits o k = true → k ≠ i → D k i (x k) (x i) ∧ D i k (x i) (x k) := by
            intro i hi hli o' ho' k hk hki
            rw [ho] at ho'
            cases ho'
            unfold waits at hk
            rw [List.any_eq_true] at hk
            obtain ⟨e, he, hh⟩ := hk
            simp only [Bool.and_eq_true, beq_iff_eq] at hh
            have hl := hdep e (by simpa using he) hh.1
            rw [hh.2] at hl
            have hkj : k < j := by rw [← hh.2]; exact frontB_spec hf j o ho e (by simpa using he) hh.1
            exact ⟨hD k i (by omega) hi hki hl hli, hD i k hi (by omega) (fun y => hki y.symm) hli hl⟩
          refine ⟨by simpa using hs, hdc', Or.inl ⟨updS x j v, rfl, hB.trans (hbl.mono hB.size), ?_, ?_, ?_⟩⟩
          · intro i hi hl
            unfold updS
            by_cases e : i = j
            · subst e; rw [if_pos rfl]; exact hSj
            · rw [if_neg e]
              rw [getD_set_ne false (fun y => e y.symm)] at hl
              exact mono _ _ _ _ (hS i hi hl) hbl
          · intro i k hi hk hik hli hlk
            unfold updS
            by_cases ei : i = j
            · subst ei
              rw [if_pos rfl, if_neg (fun y => hik y.symm)]
              rw [getD_set_ne false hik] at hlk
              exact (hDj k hk (fun y => hik y.symm) (hS k hk hlk) (hw k hk hlk)).2
            · rw [if_neg ei]
              rw [getD_set_ne false (fun y => ei y.symm)] at hli
              by_cases ek : k = j
              · subst ek
                rw [if_pos rfl]
                exact (hDj i hi ei (hS i hi hli) (hw i hi hli)).1
              · rw [if_neg ek]
                rw [getD_set_ne false (fun y => ek y.symm)] at hlk
                exact hD i k hi hk hik hli hlk
          · intro i hi1 hi2
            rw [getD_set_ne false (by omega)]
            exact hno i hi1 hi2
        · rw [ho] at ho'
          cases ho'
          unfold waits at hi
          rw [List.any_eq_true] at hi
          obtain ⟨e, he, hh⟩ := hi
          simp only [Bool.and_eq_true, beq_iff_eq] at hh
          have hl := hdep e (by simpa using he) hh.1
          rw [hh.2] at hl
          have hij : i < j := by rw [← hh.2]; exact frontB_spec hf j o ho e (by simpa using he) hh.1
          exact hS i (by omega) hl
      · have hall : ∀ i, i < j → listed.getD i false = true := fun i hi => covers_spec hdc _ j i o ho hdep (chainB_spec hch hj (by omega) hi)
        have hjn' : j = n := by
          rcases Nat.lt_trichotomy j n with h | h | h
          · omega
          · exact h
          · have := hall n h
            rw [hno n (Nat.le_refl _) (by omega)] at this
            cases this
        subst hjn'
        refine chain j (Nat.le_refl _) (by omega) (fun i hi => ⟨fun h => ?_, fun h => hall i h⟩) (rest x w hB (fun i hi => hS i hi (hall i hi)) fun i k hi hk hik => hD i k hi hk hik (hall i hi) (hall k hk)) (Nat.le_refl _)
        rcases Nat.lt_or_ge i j with h' | h'
        · exact h'
        · rw [hno i h' hi] at h; cases h
    · by_cases hjn : n ≤ j
      · exact chain k hk1 hk2 hk3 hk4 hjn
      · have := (hk3 j hj).2 (by omega)
        rw [this] at hun'
        cases hun'
  · rintro listed a w ⟨hs, hdc, hI⟩ hall
    have hall' : ∀ j, j < ops.size → listed.getD j false = true := fun j hj => by rw [← fin listed j (by omega)]; exact hall j hj
    rcases hI with ⟨x, rfl, hB, hS, hD, hno⟩ | ⟨k, hk1, hk2, hk3, hk4⟩
    · have hns : n = ops.size := by
        rcases Nat.lt_or_ge n ops.size with h | h
        · have := hall' n h
          rw [hno n (Nat.le_refl _) h] at this
          cases this
        · omega
      have := rest x w hB (fun i hi => hS i hi (hall' i (by omega))) fun i k hi hk hik => hD i k hi hk hik (hall' i (by omega)) (hall' k (by omega))
      rw [hns, List.drop_of_length_le (by simp)] at this
      simpa only [wpList] using this
    · have hks : k = ops.size := by
        rcases Nat.lt_or_ge k ops.size with h | h
        · have := (hk3 k h).1 (hall' k h); omega
        · omega
      rw [hks, List.drop_of_length_le (by simp)] at hk4
      simpa only [wpList] using hk4

/-- The same with the frame kept closed. -/
theorem wp_region_slotsAD {P : Program} {ops : Array Oper} {Q : Exit → Act → World → Prop} {id : Nat} {a0 : Act} {V : World} (n N : Nat) (ds : List Nat) (S : Nat → Value → World → Prop) (D : Nat → Nat → Value → Value → Prop)
    (hm : P.follows .mixedOrders = true) (hf : frontB .any ops = true) (hch : chainB .any ops n = true) (hn : n ≤ ops.size) (hl : ds.length = n) (hN : a0.tmps.size = N) (hnd : ds.Nodup) (hds : ∀ d ∈ ds, d < N)
    (mono : ∀ j v w w', S j v w → Below w.heap.size w w' → S j v w')
    (step : ∀ j, j < n → ∀ a w, Below V.heap.size V w → (∀ e, e ∉ ds → a.eval (.tmp e) = a0.eval (.tmp e)) → (∀ o, ops[j]? = some o → ∀ i, waits o i = true → S i (a.eval (.tmp (ds.getD i 0))) w) →
      wpOp P ops Q j (fun a' w' => ∃ v, a' = a.put (some (ds.getD j 0)) v ∧ S j v w' ∧ Below w.heap.size w w' ∧ ∀ i u, i < n → i ≠ j → S i u w → (∀ o, ops[j]? = some o → ∀ k, waits o k = true → k ≠ i → D k i (a.eval (.tmp (ds.getD k 0))) u ∧ D i k u (a.eval (.tmp (ds.getD k 0)))) → D i j u v ∧ D j i v u) a w)
    (rest : ∀ x w, Below V.heap.size V w → (∀ i, i < n → S i (x i) w) → (∀ i j, i < n → j < n → i ≠ j → D i j (x i) (x j)) → wpList P ops Q (ops.toList.drop n) (putL a0 ds 0 x) w) : (Code.region id ops true).wp P Q a0 V := by
  have hds' : ∀ d ∈ ds, d < a0.tmps.size := by rw [hN]; exact hds
  refine wp_region_slotsD n (putL a0 ds 0) S D hm hf hch hn mono (fun i => a0.eval (.tmp (ds.getD i 0))) (putL_self ds a0 0 _ fun i _ => by simp).symm ?_ rest
  intro j hj x w hB hdep
  refine wpOp_mono ?_ (step j hj (putL a0 ds 0 x) w hB (fun e he => putL_other ds a0 0 x he) fun o ho i hi => ?_)
  · rintro a' w' ⟨v, rfl, hS, hbl, hD⟩
    refine ⟨v, ?_, hS, hbl, fun i hi hij hs hk => hD i _ hi hij hs fun o ho k hkw hki => ?_⟩
    · rw [putL_put ds a0 0 x hnd j (by omega), Nat.zero_add]
    · have hkj : k < j := by
        have hkw' := hkw
        unfold waits at hkw'
        rw [List.any_eq_true] at hkw'
        obtain ⟨e, he, hh⟩ := hkw'
        simp only [Bool.and_eq_true, beq_iff_eq] at hh
        rw [← hh.2]; exact frontB_spec hf j o ho e (by simpa using he) hh.1
      rw [putL_same ds a0 0 x hnd hds' k (by omega), Nat.zero_add]
      exact hk o ho k hkw hki
  · have hij : i < j := by
      unfold waits at hi
      rw [List.any_eq_true] at hi
      obtain ⟨e, he, hh⟩ := hi
      simp only [Bool.and_eq_true, beq_iff_eq] at hh
      rw [← hh.2]; exact frontB_spec hf j o ho e (by simpa using he) hh.1
    rw [putL_same ds a0 0 x hnd hds' i (by omega), Nat.zero_add]
    exact hdep o ho i hi
end Go.Proofs.YtaoncjgllcndmaaDoor

namespace Go.Proofs.YtaoncjgllcndmaaDoor
open Go.RowKit

/-- A REGION IN WHATEVER ORDER, ITS STORES AMONG THE DRAWN: S j what operation j has told once it has come up (of all slots and the world), C what holds throughout. A step keeps what is told by those that do not wait on it. -/
theorem wp_region_facts {P : Program} {ops : Array Oper} {Q : Exit → Act → World → Prop} {id : Nat} {a0 : Act} {V : World} (fr : (Nat → Value) → Act) (S : Nat → (Nat → Value) → World → Prop) (C : (Nat → Value) → World → Prop)
    (hm : P.follows .mixedOrders = true) (hf : frontB .any ops = true) (x0 : Nat → Value) (h0 : a0 = fr x0) (hC : C x0 V.drew)
    (step : ∀ j, j < ops.size → ∀ x w, C x w → (∀ o, ops[j]? = some o → ∀ i, waits o i = true → S i x w) →
      wpOp P ops Q j (fun a' w' => ∃ x', a' = fr x' ∧ S j x' w' ∧ C x' w' ∧ ∀ i, i ≠ j → i < ops.size → (∀ o, ops[i]? = some o → waits o j = false) → S i x w → S i x' w') (fr x) w)
    (rest : ∀ x w, C x w → (∀ i, i < ops.size → S i x w) → Q .normal (fr x) w) : (Code.region id ops true).wp P Q a0 V := by
  subst h0
  have fin : ∀ (listed : Array Bool) (j : Nat), j < listed.size → (listed.getD j true = listed.getD j false) := by
    intro l j hj; simp [hj]
  refine wp_region_inv (fun listed a w => listed.size = ops.size ∧ DC .any ops listed ∧ ∃ x, a = fr x ∧ C x w ∧ ∀ j, j < ops.size → listed.getD j false = true → S j x w) hm hf ?_ (fun _ _ _ h => h.1) ?_ ?_
  · refine ⟨by simp, ?_, x0, rfl, hC, ?_⟩
    · intro j o ho hl
      have hj : j < ops.size := (Array.getElem?_eq_some_iff.1 ho).1
      simp [hj] at hl
    · intro j hj hl
      simp [hj] at hl
  · rintro listed a w ⟨hs, hdc, x, rfl, hc, hS⟩ j o ho hun hdep
    have hj : j < ops.size := (Array.getElem?_eq_some_iff.1 ho).1
    have hun' : listed.getD j false = false := by rw [← fin listed j (by omega)]; exact hun
    have hdc' : DC .any ops (listed.setIfInBounds j true) := by
      intro i oi hoi hl e he hb
      by_cases eij : i = j
      · subst eij
        rw [ho] at hoi
        cases hoi
        have := hdep e he hb
        by_cases ee : i = e.on
        · rw [← ee]; simp [hs, hj]
        · rw [getD_set_ne false ee]; exact this
      · rw [getD_set_ne false (fun x => eij x.symm)] at hl
        have := hdc i oi hoi hl e he hb
        by_cases ee : j = e.on
        · rw [← ee]; simp [hs, hj]
        · rw [getD_set_ne false ee]; exact this
    refine wpOp_mono ?_ (step j hj x w hc (fun o' ho' i hi => ?_))
    · rintro a' w' ⟨x', rfl, hSj, hc', keep⟩
      refine ⟨by simpa using hs, hdc', x', rfl, hc', fun i hi hl => ?_⟩
      by_cases e : i = j
      · subst e; exact hSj
      · rw [getD_set_ne false (fun y => e y.symm)] at hl
        refine keep i e hi (fun oi hoi => ?_) (hS i hi hl)
        cases hw : waits oi j with
        | false => rfl
        | true =>
          unfold waits at hw
          rw [List.any_eq_true] at hw
          obtain ⟨e1, he, hh⟩ := hw
          simp only [Bool.and_eq_true, beq_iff_eq] at hh
          have := hdc i oi hoi hl e1 (by simpa using he) hh.1
          rw [hh.2, hun'] at this
          cases this
    · rw [ho] at ho'
      cases ho'
      unfold waits at hi
      rw [List.any_eq_true] at hi
      obtain ⟨e, he, hh⟩ := hi
      simp only [Bool.and_eq_true, beq_iff_eq] at hh
      have hl := hdep e (by simpa using he) hh.1
      rw [hh.2] at hl
      have hij : i < j := by rw [← hh.2]; exact frontB_spec hf j o ho e (by simpa using he) hh.1
      exact hS i (by omega) hl
  · rintro listed a w ⟨hs, hdc, x, rfl, hc, hS⟩ hall
    exact rest x w hc fun i hi => hS i hi (by rw [← fin listed i (by omega)]; exact hall i hi)
/-- The same with the frame kept closed. -/
theorem wp_region_factsA {P : Program} {ops : Array Oper} {Q : Exit → Act → World → Prop} {id : Nat} {a0 : Act} {V : World} (N : Nat) (ds : List Nat) (S : Nat → (Nat → Value) → World → Prop) (C : (Nat → Value) → World → Prop)
    (hm : P.follows .mixedOrders = true) (hf : frontB .any ops = true) (hN : a0.tmps.size = N) (hnd : ds.Nodup) (hds : ∀ d ∈ ds, d < N) (hC : C (fun i => a0.eval (.tmp (ds.getD i 0))) V.drew)
    (step : ∀ j, j < ops.size → ∀ x a w, (∀ e, e ∉ ds → a.eval (.tmp e) = a0.eval (.tmp e)) → (∀ i, i < ds.length → a.eval (.tmp (ds.getD i 0)) = x i) → C x w → (∀ o, ops[j]? = some o → ∀ i, waits o i = true → S i x w) →
      wpOp P ops Q j (fun a' w' => ∃ x', ((∃ v i, i < ds.length ∧ a' = a.put (some (ds.getD i 0)) v ∧ x' = updS x i v) ∨ (a' = a ∧ x' = x)) ∧ S j x' w' ∧ C x' w' ∧ ∀ i, i ≠ j → i < ops.size → (∀ o, ops[i]? = some o → waits o j = false) → S i x w → S i x' w') a w)
    (rest : ∀ x w, C x w → (∀ i, i < ops.size → S i x w) → wpList P ops Q [] (putL a0 ds 0 x) w) : (Code.region id ops true).wp P Q a0 V := by
  have hds' : ∀ d ∈ ds, d < a0.tmps.size := by rw [hN]; exact hds
  refine wp_region_facts (putL a0 ds 0) S C hm hf (fun i => a0.eval (.tmp (ds.getD i 0))) (putL_self ds a0 0 _ fun i _ => by simp).symm hC ?_ fun x w hc hS => by
    have := rest x w hc hS
    simpa only [wpList] using this
  intro j hj x w hc hdep
  refine wpOp_mono ?_ (step j hj x (putL a0 ds 0 x) w (fun e he => putL_other ds a0 0 x he) (fun i hi => by rw [putL_same ds a0 0 x hnd hds' i hi, Nat.zero_add]) hc hdep)
  rintro a' w' ⟨x', hx, h1, h2, h3⟩
  refine ⟨x', ?_, h1, h2, h3⟩
  rcases hx with ⟨v, i, hi, rfl, rfl⟩ | ⟨rfl, rfl⟩
  · rw [putL_put ds a0 0 x hnd i hi, Nat.zero_add]
  · rfl
end Go.Proofs.YtaoncjgllcndmaaDoor
