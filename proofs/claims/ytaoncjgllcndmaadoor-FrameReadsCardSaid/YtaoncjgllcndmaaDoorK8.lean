import Derived.Test.YtaoncjgllcndmaaDoorK4
namespace Go.Proofs.YtaoncjgllcndmaaDoor
open Go.RowKit

/-- A REGION IN WHATEVER ORDER, ITS STORES AMONG THE DRAWN: S j what operation j has told once it has come up (of all slots and the world), C what holds throughout. A step keeps what is told by those that do not wait on it. -/
theorem wp_region_facts {P : Program} {ops : Array Oper} {Q : Exit → Act → World → Prop} {id : Nat} {a0 : Act} {V : World} (fr : (Nat → Value) → Act) (S : Nat → (Nat → Value) → World → Prop) (C : (Nat → Value) → World → Prop)
    (hm : P.follows .mixedOrders = true) (hf : frontB .any ops = true) (x0 : Nat → Value) (h0 : a0 = fr x0) (hC : C x0 V.drew)
    (step : ∀ j, j < ops.size → ∀ x w, C x w → (∀ o, ops[j]? = some o → ∀ i, waits o i = true → S i x w) →
      wpOp P ops Q j (fun a' w' => ∃ x', a' = fr x' ∧ S j x' w' ∧ C x' w' ∧ ∀ i, i ≠ j → i < ops.size → (∀ o, ops[i]? = some o → waits o j = false) → S i x w → S i x' w') (fr x) w)
    (rest : ∀ x w, C x w → (∀ i, i < ops.size → S i x w) → Q .normal (fr x) w) : (Code.region id ops true).wp P Q a0 V := by
  subst h0
  have fin : ∀ (listed : Array Bool) (j : Nat), j < listed.size → (listed.getD j true = listed.getD j false) := by
    intro l j hj; simp [hj]
  refine wp_region_inv (fun listed a w => listed.size = ops.size ∧ DC .any ops listed ∧ ∃ x, a = fr x ∧ C x w ∧ ∀ j, j < ops.size → listed.getD j false = true → S j x w) hm hf ?_ (fun _ _ _ h => h.1) ?_ ?_
  · refine ⟨by simp, ?_, x0, rfl, hC, ?_⟩
    · intro j o ho hl
      have hj : j < ops.size := (Array.getElem?_eq_some_iff.1 ho).1
      simp [hj] at hl
    · intro j hj hl
      simp [hj] at hl
  · rintro listed a w ⟨hs, hdc, x, rfl, hc, hS⟩ j o ho hun hdep
    have hj : j < ops.size := (Array.getElem?_eq_some_iff.1 ho).1
    have hun' : listed.getD j false = false := by rw [← fin listed j (by omega)]; exact hun
    have hdc' : DC .any ops (listed.setIfInBounds j true) := by
      intro i oi hoi hl e he hb
      by_cases eij : i = j
      · subst eij
        rw [ho] at hoi
        cases hoi
        have := hdep e he hb
        by_cases ee : i = e.on
        · rw [← ee]; simp [hs, hj]
        · rw [getD_set_ne false ee]; exact this
      · rw [getD_set_ne false (fun x => eij x.symm)] at hl
        have := hdc i oi hoi hl e he hb
        by_cases ee : j = e.on
        · rw [← ee]; simp [hs, hj]
        · rw [getD_set_ne false ee]; exact this
    refine wpOp_mono ?_ (step j hj x w hc (fun o' ho' i hi => ?_))
    · rintro a' w' ⟨x', rfl, hSj, hc', keep⟩
      refine ⟨by simpa using hs, hdc', x', rfl, hc', fun i hi hl => ?_⟩
      by_cases e : i = j
      · subst e; exact hSj
      · rw [getD_set_ne false (fun y => e y.symm)] at hl
        refine keep i e hi (fun oi hoi => ?_) (hS i hi hl)
        cases hw : waits oi j with
        | false => rfl
        | true =>
          unfold waits at hw
          rw [List.any_eq_true] at hw
          obtain ⟨e1, he, hh⟩ := hw
          simp only [Bool.and_eq_true, beq_iff_eq] at hh
          have := hdc i oi hoi hl e1 (by simpa using he) hh.1
          rw [hh.2, hun'] at this
          cases this
    · rw [ho] at ho'
      cases ho'
      unfold waits at hi
      rw [List.any_eq_true] at hi
      obtain ⟨e, he, hh⟩ := hi
      simp only [Bool.and_eq_true, beq_iff_eq] at hh
      have hl := hdep e (by simpa using he) hh.1
      rw [hh.2] at hl
      have hij : i < j := by rw [← hh.2]; exact frontB_spec hf j o ho e (by simpa using he) hh.1
      exact hS i (by omega) hl
  · rintro listed a w ⟨hs, hdc, x, rfl, hc, hS⟩ hall
    exact rest x w hc fun i hi => hS i hi (by rw [← fin listed i (by omega)]; exact hall i hi)
/-- The same with the frame kept closed. -/
theorem wp_region_factsA {P : Program} {ops : Array Oper} {Q : Exit → Act → World → Prop} {id : Nat} {a0 : Act} {V : World} (N : Nat) (ds : List Nat) (S : Nat → (Nat → Value) → World → Prop) (C : (Nat → Value) → World → Prop)
    (hm : P.follows .mixedOrders = true) (hf : frontB .any ops = true) (hN : a0.tmps.size = N) (hnd : ds.Nodup) (hds : ∀ d ∈ ds, d < N) (hC : C (fun i => a0.eval (.tmp (ds.getD i 0))) V.drew)
    (step : ∀ j, j < ops.size → ∀ x a w, (∀ e, e ∉ ds → a.eval (.tmp e) = a0.eval (.tmp e)) → (∀ i, i < ds.length → a.eval (.tmp (ds.getD i 0)) = x i) → C x w → (∀ o, ops[j]? = some o → ∀ i, waits o i = true → S i x w) →
      wpOp P ops Q j (fun a' w' => ∃ x', ((∃ v i, i < ds.length ∧ a' = a.put (some (ds.getD i 0)) v ∧ x' = updS x i v) ∨ (a' = a ∧ x' = x)) ∧ S j x' w' ∧ C x' w' ∧ ∀ i, i ≠ j → i < ops.size → (∀ o, ops[i]? = some o → waits o j = false) → S i x w → S i x' w') a w)
    (rest : ∀ x w, C x w → (∀ i, i < ops.size → S i x w) → wpList P ops Q [] (putL a0 ds 0 x) w) : (Code.region id ops true).wp P Q a0 V := by
  have hds' : ∀ d ∈ ds, d < a0.tmps.size := by rw [hN]; exact hds
  refine wp_region_facts (putL a0 ds 0) S C hm hf (fun i => a0.eval (.tmp (ds.getD i 0))) (putL_self ds a0 0 _ fun i _ => by simp).symm hC ?_ fun x w hc hS => by
    have := rest x w hc hS
    simpa only [wpList] using this
  intro j hj x w hc hdep
  refine wpOp_mono ?_ (step j hj x (putL a0 ds 0 x) w (fun e he => putL_other ds a0 0 x he) (fun i hi => by rw [putL_same ds a0 0 x hnd hds' i hi, Nat.zero_add]) hc hdep)
  rintro a' w' ⟨x', hx, h1, h2, h3⟩
  refine ⟨x', ?_, h1, h2, h3⟩
  rcases hx with ⟨v, i, hi, rfl, rfl⟩ | ⟨rfl, rfl⟩
  · rw [putL_put ds a0 0 x hnd i hi, Nat.zero_add]
  · rfl
end Go.Proofs.YtaoncjgllcndmaaDoor
