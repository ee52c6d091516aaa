import Derived.Test.YtplhkjkaabgffaaGreatDoorM1
import Derived.Test.YtplhkjkaabgffaaGreatDoorB1
import Derived.Test.YtplhkjkaabgffaaGreatDoorM7
import Derived.Deep.DeepCutAuto
import Derived.Deep.CutBlock
namespace Go.Proofs.YtplhkjkaabgffaaGreatDoor
open Go.RowKit

theorem put_size (a : Act) (d : Option Nat) (v : Value) : (a.put d v).tmps.size = a.tmps.size := by cases d <;> simp [Act.put]
theorem put_other (a : Act) {d e : Nat} (v : Value) (h : d ≠ e) : (a.put (some d) v).eval (.tmp e) = a.eval (.tmp e) := by
  simp only [Act.put, Act.eval, Array.getD_eq_getD_getElem?, Array.getElem?_setIfInBounds]
  rw [if_neg h]
theorem put_same (a : Act) {d : Nat} (v : Value) (h : d < a.tmps.size) : (a.put (some d) v).eval (.tmp d) = v := by
  simp [Act.put, Act.eval, h]
theorem put_put (a : Act) (d : Nat) (u v : Value) : (a.put (some d) u).put (some d) v = a.put (some d) v := by
  simp [Act.put]
theorem put_comm (a : Act) {d e : Nat} (u v : Value) (h : d ≠ e) : (a.put (some d) u).put (some e) v = (a.put (some e) v).put (some d) u := by
  simp only [Act.put]
  rw [Array.setIfInBounds_comm _ _ h]
theorem put_self (a : Act) (d : Nat) : a.put (some d) (a.eval (.tmp d)) = a := by
  simp only [Act.put, Act.eval]
  have e : a.tmps.setIfInBounds d (a.tmps.getD d undef) = a.tmps := by
    apply Array.ext_getElem?
    intro i
    rw [Array.getElem?_setIfInBounds]
    by_cases h : d = i
    · subst h
      by_cases h2 : d < a.tmps.size
      · simp [h2]
      · simp [h2]
    · rw [if_neg h]
  rw [e]
theorem putL_size : ∀ (ds : List Nat) (a : Act) (k : Nat) (x : Nat → Value), (putL a ds k x).tmps.size = a.tmps.size
  | [], _, _, _ => rfl
  | d :: ds, a, k, x => by simp only [putL]; rw [putL_size ds, put_size]
theorem putL_other {e : Nat} : ∀ (ds : List Nat) (a : Act) (k : Nat) (x : Nat → Value), e ∉ ds → (putL a ds k x).eval (.tmp e) = a.eval (.tmp e)
  | [], _, _, _, _ => rfl
  | d :: ds, a, k, x, h => by
    simp only [putL]
    rw [putL_other ds _ _ _ (fun hm => h (List.mem_cons_of_mem _ hm)), put_other _ _ (fun he => h (by rw [he]; exact List.mem_cons_self))]
theorem putL_same : ∀ (ds : List Nat) (a : Act) (k : Nat) (x : Nat → Value), ds.Nodup → (∀ d ∈ ds, d < a.tmps.size) → ∀ i, i < ds.length → (putL a ds k x).eval (.tmp (ds.getD i 0)) = x (k + i)
  | [], _, _, _, _, _, i, hi => by simp at hi
  | d :: ds, a, k, x, hn, hs, i, hi => by
    simp only [putL]
    cases i with
    | zero =>
      simp only [List.getD_cons_zero, Nat.add_zero]
      rw [putL_other ds _ _ _ (List.nodup_cons.1 hn).1, put_same _ _ (hs d List.mem_cons_self)]
    | succ i =>
      simp only [List.getD_cons_succ]
      rw [putL_same ds _ _ _ (List.nodup_cons.1 hn).2 (fun e he => by rw [put_size]; exact hs e (List.mem_cons_of_mem _ he)) i (by simpa using hi), Nat.add_assoc, Nat.add_comm 1 i]
theorem putL_congr : ∀ (ds : List Nat) (a : Act) (k : Nat) (x y : Nat → Value), (∀ j, k ≤ j → x j = y j) → putL a ds k x = putL a ds k y
  | [], _, _, _, _, _ => rfl
  | d :: ds, a, k, x, y, h => by
    simp only [putL]
    rw [h k (Nat.le_refl _)]
    exact putL_congr ds _ _ _ _ fun j hj => h j (by omega)
theorem putL_comm {e : Nat} {v : Value} : ∀ (ds : List Nat) (a : Act) (k : Nat) (x : Nat → Value), e ∉ ds → (putL a ds k x).put (some e) v = putL (a.put (some e) v) ds k x
  | [], _, _, _, _ => rfl
  | d :: ds, a, k, x, h => by
    simp only [putL]
    rw [putL_comm ds _ _ _ (fun hm => h (List.mem_cons_of_mem _ hm)), put_comm _ _ _ (fun he => h (by rw [← he]; exact List.mem_cons_self))]
theorem putL_put {v : Value} : ∀ (ds : List Nat) (a : Act) (k : Nat) (x : Nat → Value), ds.Nodup → ∀ i, i < ds.length → (putL a ds k x).put (some (ds.getD i 0)) v = putL a ds k (updS x (k + i) v)
  | [], _, _, _, _, i, hi => by simp at hi
  | d :: ds, a, k, x, hn, i, hi => by
    simp only [putL]
    cases i with
    | zero =>
      simp only [List.getD_cons_zero, Nat.add_zero]
      rw [putL_comm ds _ _ _ (List.nodup_cons.1 hn).1, put_put]
      have e : updS x k v k = v := by simp [updS]
      rw [e]
      exact putL_congr ds _ _ _ _ fun j hj => by simp [updS, show ¬ j = k by omega]
    | succ i =>
      simp only [List.getD_cons_succ]
      rw [putL_put ds _ _ _ (List.nodup_cons.1 hn).2 i (by simpa using hi)]
      have e : updS x (k + (i + 1)) v k = x k := by simp [updS]
      rw [e, show k + 1 + i = k + (i + 1) by omega]
theorem putL_self : ∀ (ds : List Nat) (a : Act) (k : Nat) (x : Nat → Value), (∀ i, i < ds.length → x (k + i) = a.eval (.tmp (ds.getD i 0))) → putL a ds k x = a
  | [], _, _, _, _ => rfl
  | d :: ds, a, k, x, h => by
    simp only [putL]
    have e : a.put (some d) (x k) = a := by
      have := h 0 (by simp)
      simp only [List.getD_cons_zero, Nat.add_zero] at this
      rw [this]; exact put_self a d
    rw [e]
    exact putL_self ds a (k + 1) x fun i hi => by
      have := h (i + 1) (by simpa using hi)
      simp only [List.getD_cons_succ] at this
      rw [← this, Nat.add_assoc, Nat.add_comm 1 i]

/-- A REGION SLOT BY SLOT, THE FRAME KEPT CLOSED: of it each step knows the slots that are not written, and what S says of those that it waits for. -/
theorem wp_region_slotsA {P : Program} {ops : Array Oper} {Q : Exit → Act → World → Prop} {id : Nat} {a0 : Act} {V : World} (n N : Nat) (ds : List Nat) (S : Nat → Value → World → Prop)
    (hm : P.follows .mixedOrders = true) (hf : frontB .any ops = true) (hch : chainB .any ops n = true) (hn : n ≤ ops.size) (hl : ds.length = n) (hN : a0.tmps.size = N) (hnd : ds.Nodup) (hds : ∀ d ∈ ds, d < N)
    (mono : ∀ j v w w', S j v w → Below w.heap.size w w' → S j v w')
    (step : ∀ j, j < n → ∀ a w, Below V.heap.size V w → (∀ e, e ∉ ds → a.eval (.tmp e) = a0.eval (.tmp e)) → (∀ o, ops[j]? = some o → ∀ i, waits o i = true → S i (a.eval (.tmp (ds.getD i 0))) w) →
      wpOp P ops Q j (fun a' w' => ∃ v, a' = a.put (some (ds.getD j 0)) v ∧ S j v w' ∧ Below w.heap.size w w') a w)
    (rest : ∀ x w, Below V.heap.size V w → (∀ i, i < n → S i (x i) w) → wpList P ops Q (ops.toList.drop n) (putL a0 ds 0 x) w) : (Code.region id ops true).wp P Q a0 V := by
  have hds' : ∀ d ∈ ds, d < a0.tmps.size := by rw [hN]; exact hds
  refine wp_region_slots n (putL a0 ds 0) S hm hf hch hn mono (fun i => a0.eval (.tmp (ds.getD i 0))) (putL_self ds a0 0 _ fun i _ => by simp).symm ?_ rest
  intro j hj x w hB hdep
  refine wpOp_mono ?_ (step j hj (putL a0 ds 0 x) w hB (fun e he => putL_other ds a0 0 x he) fun o ho i hi => ?_)
  · rintro a' w' ⟨v, rfl, hS, hbl⟩
    refine ⟨v, ?_, hS, hbl⟩
    rw [putL_put ds a0 0 x hnd j (by omega), Nat.zero_add]
  · have hij : i < j := by
      unfold waits at hi
      rw [List.any_eq_true] at hi
      obtain ⟨e, he, hh⟩ := hi
      simp only [Bool.and_eq_true, beq_iff_eq] at hh
      rw [← hh.2]; exact frontB_spec hf j o ho e (by simpa using he) hh.1
    rw [putL_same ds a0 0 x hnd hds' i (by omega), Nat.zero_add]
    exact hdep o ho i hi
/-- What a guard's operation yielded. -/
theorem yieldedAt {ops : Array Oper} {a : Act} {k d : Nat} {o : Oper} {b : Bool} (ho : ops[k]? = some o) (hd : o.dst = some d) (hv : a.eval (.tmp d) = .bool b) : yielded ops a.tmps k = some b := by
  have h : a.tmps[d]? = some (.bool b) := by
    simp only [Act.eval, Array.getD_eq_getD_getElem?] at hv
    cases hq : a.tmps[d]? with
    | none => rw [hq] at hv; cases hv
    | some v => rw [hq] at hv; simp at hv; rw [hv]
  simp [yielded, ho, hd, h]
end Go.Proofs.YtplhkjkaabgffaaGreatDoor

namespace Go.Proofs.YtplhkjkaabgffaaGreatDoor
open Go.RowKit

/-- THE SAME WITH A RELATION D BETWEEN ANY TWO OF THEM: that two rows made here are not one. -/
theorem wp_region_slotsD {P : Program} {ops : Array Oper} {Q : Exit → Act → World → Prop} {id : Nat} {a0 : Act} {V : World} (n : Nat) (fr : (Nat → Value) → Act) (S : Nat → Value → World → Prop) (D : Nat → Nat → Value → Value → Prop)
    (hm : P.follows .mixedOrders = true) (hf : frontB .any ops = true) (hch : chainB .any ops n = true) (hn : n ≤ ops.size)
    (mono : ∀ j v w w', S j v w → Below w.heap.size w w' → S j v w')
    (x0 : Nat → Value) (h0 : a0 = fr x0)
    (step : ∀ j, j < n → ∀ x w, Below V.heap.size V w → (∀ o, ops[j]? = some o → ∀ i, waits o i = true → S i (x i) w) → wpOp P ops Q j (fun a' w' => ∃ v, a' = fr (updS x j v) ∧ S j v w' ∧ Below w.heap.size w w' ∧ ∀ i, i < n → i ≠ j → S i (x i) w → (∀ o, ops[j]? = some o → ∀ k, waits o k = true → k ≠ i → D k i (x k) (x i) ∧ D i k (x i) (x k)) → D i j (x i) v ∧ D j i v (x i)) (fr x) w)
    (rest : ∀ x w, Below V.heap.size V w → (∀ i, i < n → S i (x i) w) → (∀ i j, i < n → j < n → i ≠ j → D i j (x i) (x j)) → wpList P ops Q (ops.toList.drop n) (fr x) w) : (Code.region id ops true).wp P Q a0 V := by
  subst h0
  have fin : ∀ (listed : Array Bool) (j : Nat), j < listed.size → (listed.getD j true = listed.getD j false) := by
    intro l j hj; simp [hj]
  refine wp_region_inv (fun listed a w => listed.size = ops.size ∧ DC .any ops listed ∧
    ((∃ x, a = fr x ∧ Below V.heap.size V w ∧ (∀ j, j < n → listed.getD j false = true → S j (x j) w) ∧ (∀ i j, i < n → j < n → i ≠ j → listed.getD i false = true → listed.getD j false = true → D i j (x i) (x j)) ∧ (∀ j, n ≤ j → j < ops.size → listed.getD j false = false)) ∨
     (∃ k, n ≤ k ∧ k ≤ ops.size ∧ (∀ j, j < ops.size → (listed.getD j false = true ↔ j < k)) ∧ wpList P ops Q (ops.toList.drop k) a w))) hm hf ?_ (fun _ _ _ h => h.1) ?_ ?_
  · refine ⟨by simp, ?_, Or.inl ⟨x0, rfl, (Below.refl _ _).drew, ?_, ?_, ?_⟩⟩
    · intro j o ho hl
      have hj : j < ops.size := (Array.getElem?_eq_some_iff.1 ho).1
      simp [hj] at hl
    · intro j hj hl
      have hj' : j < ops.size := by omega
      simp [hj'] at hl
    · intro i j hi hj _ hl
      have hi' : i < ops.size := by omega
      simp [hi'] at hl
    · intro j _ hj
      simp [hj]
  · rintro listed a w ⟨hs, hdc, hI⟩ j o ho hun hdep
    have hj : j < ops.size := (Array.getElem?_eq_some_iff.1 ho).1
    have hun' : listed.getD j false = false := by rw [← fin listed j (by omega)]; exact hun
    have hdc' : DC .any ops (listed.setIfInBounds j true) := by
      intro i oi hoi hl e he hb
      by_cases eij : i = j
      · subst eij
        rw [ho] at hoi
        cases hoi
        have := hdep e he hb
        by_cases ee : i = e.on
        · rw [← ee]; simp [hs, hj]
        · rw [getD_set_ne false ee]; exact this
      · rw [getD_set_ne false (fun x => eij x.symm)] at hl
        have := hdc i oi hoi hl e he hb
        by_cases ee : j = e.on
        · rw [← ee]; simp [hs, hj]
        · rw [getD_set_ne false ee]; exact this
    -- one of the chain comes up: all ahead of it have
    have chain : ∀ k, n ≤ k → k ≤ ops.size → (∀ i, i < ops.size → (listed.getD i false = true ↔ i < k)) → wpList P ops Q (ops.toList.drop k) a w → n ≤ j →
        wpOp P ops Q j (fun a' w' => (listed.setIfInBounds j true).size = ops.size ∧ DC .any ops (listed.setIfInBounds j true) ∧
          ((∃ x, a' = fr x ∧ Below V.heap.size V w' ∧ (∀ i, i < n → (listed.setIfInBounds j true).getD i false = true → S i (x i) w') ∧ (∀ i k, i < n → k < n → i ≠ k → (listed.setIfInBounds j true).getD i false = true → (listed.setIfInBounds j true).getD k false = true → D i k (x i) (x k)) ∧ (∀ i, n ≤ i → i < ops.size → (listed.setIfInBounds j true).getD i false = false)) ∨
           (∃ k, n ≤ k ∧ k ≤ ops.size ∧ (∀ i, i < ops.size → ((listed.setIfInBounds j true).getD i false = true ↔ i < k)) ∧ wpList P ops Q (ops.toList.drop k) a' w'))) a w := by
      intro k hk1 hk2 hk3 hk4 hnj
      have hjk : j = k := by
        rcases Nat.lt_trichotomy j k with h | h | h
        · have := (hk3 j hj).2 h; rw [this] at hun'; cases hun'
        · exact h
        · have := covers_spec hdc _ j k o ho hdep (chainB_spec hch hj hnj h)
          have := (hk3 k (by omega)).1 this
          omega
      subst hjk
      have hd : ops.toList.drop j = o :: ops.toList.drop (j + 1) := by
        have hlt : j < ops.toList.length := by simpa using hj
        rw [List.drop_eq_getElem_cons hlt]
        have : ops.toList[j] = o := by
          have := (Array.getElem?_eq_some_iff.1 ho).2
          simpa using this
        rw [this]
      rw [hd] at hk4
      have hop : wpOp P ops Q j (wpList P ops Q (ops.toList.drop (j + 1))) a w := by
        unfold wpOp
        rw [ho]
        simp only [wpList] at hk4
        exact hk4
      refine wpOp_mono (fun a' w' h => ⟨by simpa using hs, hdc', Or.inr ⟨j + 1, by omega, by omega, ?_, h⟩⟩) hop
      intro i hi
      by_cases e : j = i
      · subst e; simp [hs, hj]
      · rw [getD_set_ne false e, hk3 i hi]; omega
    rcases hI with ⟨x, rfl, hB, hS, hD, hno⟩ | ⟨k, hk1, hk2, hk3, hk4⟩
    · by_cases hjn : j < n
      · refine wpOp_mono ?_ (step j hjn x w hB (fun o' ho' i hi => ?_))
        · rintro a' w' ⟨v, rfl, hSj, hbl, hDj⟩
          have hw : ∀ i, i < n → listed.getD i false = true → ∀ o, ops[j]? = some o → ∀ k, waits o k = true → k ≠ i → D k i (x k) (x i) ∧ D i k (x i) (x k) := by
            intro i hi hli o' ho' k hk hki
            rw [ho] at ho'
            cases ho'
            unfold waits at hk
            rw [List.any_eq_true] at hk
            obtain ⟨e, he, hh⟩ := hk
            simp only [Bool.and_eq_true, beq_iff_eq] at hh
            have hl := hdep e (by simpa using he) hh.1
            rw [hh.2] at hl
            have hkj : k < j := by rw [← hh.2]; exact frontB_spec hf j o ho e (by simpa using he) hh.1
            exact ⟨hD k i (by omega) hi hki hl hli, hD i k hi (by omega) (fun y => hki y.symm) hli hl⟩
          refine ⟨by simpa using hs, hdc', Or.inl ⟨updS x j v, rfl, hB.trans (hbl.mono hB.size), ?_, ?_, ?_⟩⟩
          · intro i hi hl
            unfold updS
            by_cases e : i = j
            · subst e; rw [if_pos rfl]; exact hSj
            · rw [if_neg e]
              rw [getD_set_ne false (fun y => e y.symm)] at hl
              exact mono _ _ _ _ (hS i hi hl) hbl
          · intro i k hi hk hik hli hlk
            unfold updS
            by_cases ei : i = j
            · subst ei
              rw [if_pos rfl, if_neg (fun y => hik y.symm)]
              rw [getD_set_ne false hik] at hlk
              exact (hDj k hk (fun y => hik y.symm) (hS k hk hlk) (hw k hk hlk)).2
            · rw [if_neg ei]
              rw [getD_set_ne false (fun y => ei y.symm)] at hli
              by_cases ek : k = j
              · subst ek
                rw [if_pos rfl]
                exact (hDj i hi ei (hS i hi hli) (hw i hi hli)).1
              · rw [if_neg ek]
                rw [getD_set_ne false (fun y => ek y.symm)] at hlk
                exact hD i k hi hk hik hli hlk
          · intro i hi1 hi2
            rw [getD_set_ne false (by omega)]
            exact hno i hi1 hi2
        · rw [ho] at ho'
          cases ho'
          unfold waits at hi
          rw [List.any_eq_true] at hi
          obtain ⟨e, he, hh⟩ := hi
          simp only [Bool.and_eq_true, beq_iff_eq] at hh
          have hl := hdep e (by simpa using he) hh.1
          rw [hh.2] at hl
          have hij : i < j := by rw [← hh.2]; exact frontB_spec hf j o ho e (by simpa using he) hh.1
          exact hS i (by omega) hl
      · have hall : ∀ i, i < j → listed.getD i false = true := fun i hi => covers_spec hdc _ j i o ho hdep (chainB_spec hch hj (by omega) hi)
        have hjn' : j = n := by
          rcases Nat.lt_trichotomy j n with h | h | h
          · omega
          · exact h
          · have := hall n h
            rw [hno n (Nat.le_refl _) (by omega)] at this
            cases this
        subst hjn'
        refine chain j (Nat.le_refl _) (by omega) (fun i hi => ⟨fun h => ?_, fun h => hall i h⟩) (rest x w hB (fun i hi => hS i hi (hall i hi)) fun i k hi hk hik => hD i k hi hk hik (hall i hi) (hall k hk)) (Nat.le_refl _)
        rcases Nat.lt_or_ge i j with h' | h'
        · exact h'
        · rw [hno i h' hi] at h; cases h
    · by_cases hjn : n ≤ j
      · exact chain k hk1 hk2 hk3 hk4 hjn
      · have := (hk3 j hj).2 (by omega)
        rw [this] at hun'
        cases hun'
  · rintro listed a w ⟨hs, hdc, hI⟩ hall
    have hall' : ∀ j, j < ops.size → listed.getD j false = true := fun j hj => by rw [← fin listed j (by omega)]; exact hall j hj
    rcases hI with ⟨x, rfl, hB, hS, hD, hno⟩ | ⟨k, hk1, hk2, hk3, hk4⟩
    · have hns : n = ops.size := by
        rcases Nat.lt_or_ge n ops.size with h | h
        · have := hall' n h
          rw [hno n (Nat.le_refl _) h] at this
          cases this
        · omega
      have := rest x w hB (fun i hi => hS i hi (hall' i (by omega))) fun i k hi hk hik => hD i k hi hk hik (hall' i (by omega)) (hall' k (by omega))
      rw [hns, List.drop_of_length_le (by simp)] at this
      simpa only [wpList] using this
    · have hks : k = ops.size := by
        rcases Nat.lt_or_ge k ops.size with h | h
        · have := (hk3 k h).1 (hall' k h); omega
        · omega
      rw [hks, List.drop_of_length_le (by simp)] at hk4
      simpa only [wpList] using hk4

/-- The same with the frame kept closed. -/
theorem wp_region_slotsAD {P : Program} {ops : Array Oper} {Q : Exit → Act → World → Prop} {id : Nat} {a0 : Act} {V : World} (n N : Nat) (ds : List Nat) (S : Nat → Value → World → Prop) (D : Nat → Nat → Value → Value → Prop)
    (hm : P.follows .mixedOrders = true) (hf : frontB .any ops = true) (hch : chainB .any ops n = true) (hn : n ≤ ops.size) (hl : ds.length = n) (hN : a0.tmps.size = N) (hnd : ds.Nodup) (hds : ∀ d ∈ ds, d < N)
    (mono : ∀ j v w w', S j v w → Below w.heap.size w w' → S j v w')
    (step : ∀ j, j < n → ∀ a w, Below V.heap.size V w → (∀ e, e ∉ ds → a.eval (.tmp e) = a0.eval (.tmp e)) → (∀ o, ops[j]? = some o → ∀ i, waits o i = true → S i (a.eval (.tmp (ds.getD i 0))) w) →
      wpOp P ops Q j (fun a' w' => ∃ v, a' = a.put (some (ds.getD j 0)) v ∧ S j v w' ∧ Below w.heap.size w w' ∧ ∀ i u, i < n → i ≠ j → S i u w → (∀ o, ops[j]? = some o → ∀ k, waits o k = true → k ≠ i → D k i (a.eval (.tmp (ds.getD k 0))) u ∧ D i k u (a.eval (.tmp (ds.getD k 0)))) → D i j u v ∧ D j i v u) a w)
    (rest : ∀ x w, Below V.heap.size V w → (∀ i, i < n → S i (x i) w) → (∀ i j, i < n → j < n → i ≠ j → D i j (x i) (x j)) → wpList P ops Q (ops.toList.drop n) (putL a0 ds 0 x) w) : (Code.region id ops true).wp P Q a0 V := by
  have hds' : ∀ d ∈ ds, d < a0.tmps.size := by rw [hN]; exact hds
  refine wp_region_slotsD n (putL a0 ds 0) S D hm hf hch hn mono (fun i => a0.eval (.tmp (ds.getD i 0))) (putL_self ds a0 0 _ fun i _ => by simp).symm ?_ rest
  intro j hj x w hB hdep
  refine wpOp_mono ?_ (step j hj (putL a0 ds 0 x) w hB (fun e he => putL_other ds a0 0 x he) fun o ho i hi => ?_)
  · rintro a' w' ⟨v, rfl, hS, hbl, hD⟩
    refine ⟨v, ?_, hS, hbl, fun i hi hij hs hk => hD i _ hi hij hs fun o ho k hkw hki => ?_⟩
    · rw [putL_put ds a0 0 x hnd j (by omega), Nat.zero_add]
    · have hkj : k < j := by
        have hkw' := hkw
        unfold waits at hkw'
        rw [List.any_eq_true] at hkw'
        obtain ⟨e, he, hh⟩ := hkw'
        simp only [Bool.and_eq_true, beq_iff_eq] at hh
        rw [← hh.2]; exact frontB_spec hf j o ho e (by simpa using he) hh.1
      rw [putL_same ds a0 0 x hnd hds' k (by omega), Nat.zero_add]
      exact hk o ho k hkw hki
  · have hij : i < j := by
      unfold waits at hi
      rw [List.any_eq_true] at hi
      obtain ⟨e, he, hh⟩ := hi
      simp only [Bool.and_eq_true, beq_iff_eq] at hh
      rw [← hh.2]; exact frontB_spec hf j o ho e (by simpa using he) hh.1
    rw [putL_same ds a0 0 x hnd hds' i (by omega), Nat.zero_add]
    exact hdep o ho i hi
end Go.Proofs.YtplhkjkaabgffaaGreatDoor

namespace Go.Proofs.YtplhkjkaabgffaaGreatDoor
open Go.RowKit

theorem made8 (n : Nat) : madeCells (Value.int .u8 0).cells n = tab8 n (fun _ => 0) := by
  apply Array.ext_getElem?
  intro i
  by_cases h : i < n
  · rw [tab8_get n _ i h]; simp [madeCells, Value.cells, h, Nat.mod_one]
  · rw [Array.getElem?_eq_none (by simp [madeCells]; omega), Array.getElem?_eq_none (by rw [tab8_size]; omega)]
/-- make([]byte, n). -/
theorem run_mkB (n : Nat) (hn : n ≤ 281474976710656) (W : World) : (Instr.makeSlice 22 (.int .i64 (n : Int)) (.int .i64 (n : Int))).run Tryz.prog W = .ok (.slice (some ⟨W.heap.size, 0, none⟩) n n) (W.alloc (.cells (tab8 n (fun _ => 0)) 5)) := by
  obtain ⟨i, h1, h2, h3, h4⟩ := info5
  have h := run_make (P := Tryz.prog) W 22 5 i (.int .u8 0) Tryz.underlying22 h1 h2 .i64 .i64 (n : Int) (n : Int) (by omega) (by omega) (by rw [h4]; omega) (by omega)
  rw [h3, Int.toNat_natCast, Nat.mul_one, made8] at h
  exact h
theorem execMake {o : Oper} {a : Act} {w : World} {n : Nat} {l c : Operand} (ho : o.op = .makeSlice 22 l c) (hl : a.eval l = .int .i64 (n : Int)) (hc : a.eval c = .int .i64 (n : Int)) (hn : n ≤ 281474976710656) : (execOp a.eval o).run Tryz.prog w = .ok (.value (.slice (some ⟨w.heap.size, 0, none⟩) n n)) (w.alloc (.cells (tab8 n (fun _ => 0)) 5)) := by
  unfold execOp
  simp only [ho, hl, hc, Sem.run_bind, run_mkB n hn, Result.andThen_ok, Sem.run_pure]
/-- A row that is known whole, as a row of one's own. -/
theorem own_row {W : World} {B g n : Nat} {f : Nat → Int} (h : W.heap[g]? = some (.cells (tab8 n f) 5)) (hB : B ≤ g) (hn : n ≤ 140737488355328) : W.ownsRow B 5 1 (.slice (some ⟨g, 0, none⟩) n n) n (vals (firstL f n)) := by
  refine ⟨by rw [vals_len, firstL_len, Nat.mul_one], Or.inr ⟨g, n, tab8 n f, rfl, hB, h, Nat.le_refl _, by unfold maxLen; omega, by rw [tab8_size, Nat.mul_one], ?_⟩⟩
  rw [Nat.mul_one, List.take_of_length_le (by simp [tab8_size])]
  simp [tab8, vals, firstL]
/-- append, and all that it leaves. -/
theorem wpList_appG {ops : Array Oper} {rest : List Oper} {o : Oper} {a : Act} {W : World} {Q : Exit → Act → World → Prop} {B n m c : Nat} {v : Value} {l r : List Int} {ao : Option Addr} (hgd : o.guard = none) (s x : Operand)
    (ho : o.op = .call { callee := .builtin .append, args := #[s, x], argTypes := #[22, 22] })
    (hs : a.eval s = v) (hx : a.eval x = .slice ao m c) (hown : W.ownsRow B 5 1 v n (vals l)) (hr : r.length = m)
    (hsrc : (ao = none ∧ m = 0 ∧ c = 0) ∨ ∃ ad, ao = some ad ∧ ∀ j u, (vals r)[j]? = some u → W.cell? (ad.add j) = some u)
    (hbig : n + m ≤ 140737488355328) (hB : B ≤ W.heap.size)
    (h : ∀ v' W', W'.ownsRow B 5 1 v' (n + m) (vals (l ++ r)) → W.grownBy W' v.ownBlock → wpList Tryz.prog ops Q rest (a.put o.dst v') W') : wpList Tryz.prog ops Q (o :: rest) a W := by
  obtain ⟨i, h1, h2, h3, h4⟩ := info5
  rcases hsrc with ⟨rfl, rfl, rfl⟩ | ⟨ad, rfl, hsrc⟩
  · obtain rfl : r = [] := List.eq_nil_of_length_eq_zero hr
    refine wpList_append_own_none hgd s x 22 ho B 5 i 1 Tryz.underlying22 h1 v n (vals l) hs hown hx ?_
    exact h v W (by simpa using hown) ⟨rfl, rfl, rfl, Nat.le_refl _, fun _ _ _ => rfl⟩
  · refine wpList_append_own W hgd s x 22 ho B 5 i (.int .u8 0) 1 1 Tryz.underlying22 h1 h2 h3 h4 rfl (by decide) v n (vals l) hs hown ad m c (vals r) hx (by rw [vals_len]; omega) hsrc (vals_one r) (by unfold maxLen; omega) (by omega) hB ?_
    intro v' W' hown' hg _
    rw [vals_append] at hown'
    exact h v' W' hown' hg
end Go.Proofs.YtplhkjkaabgffaaGreatDoor
