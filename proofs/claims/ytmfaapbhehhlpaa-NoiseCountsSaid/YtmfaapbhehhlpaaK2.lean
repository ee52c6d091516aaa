import Derived.Test.YtmfaapbhehhlpaaK1
namespace Go.Proofs.Ytmfaapbhehhlpaa
open Go.RowKit

theorem put_size (a : Act) (d : Option Nat) (v : Value) : (a.put d v).tmps.size = a.tmps.size := by cases d <;> simp [Act.put]
theorem put_other (a : Act) {d e : Nat} (v : Value) (h : d ≠ e) : (a.put (some d) v).eval (.tmp e) = a.eval (.tmp e) := by
  simp only [Act.put, Act.eval, Array.getD_eq_getD_getElem?, Array.getElem?_setIfInBounds]
  rw [if_neg h]
theorem put_same (a : Act) {d : Nat} (v : Value) (h : d < a.tmps.size) : (a.put (some d) v).eval (.tmp d) = v := by
  simp [Act.put, Act.eval, h]
theorem put_put (a : Act) (d : Nat) (u v : Value) : (a.put (some d) u).put (some d) v = a.put (some d) v := by
  simp [Act.put]
theorem put_comm (a : Act) {d e : Nat} (u v : Value) (h : d ≠ e) : (a.put (some d) u).put (some e) v = (a.put (some e) v).put (some d) u := by
  simp only [Act.put]
  rw [Array.setIfInBounds_comm _ _ h]
theorem put_self (a : Act) (d : Nat) : a.put (some d) (a.eval (.tmp d)) = a := by
  simp only [Act.put, Act.eval]
  have e : a.tmps.setIfInBounds d (a.tmps.getD d undef) = a.tmps := by
    apply Array.ext_getElem?
    intro i
    rw [Array.getElem?_setIfInBounds]
    by_cases h : d = i
    · subst h
      by_cases h2 : d < a.tmps.size
      · simp [h2]
      · simp [h2]
    · rw [if_neg h]
  rw [e]
theorem putL_other {e : Nat} : ∀ (ds : List Nat) (a : Act) (k : Nat) (x : Nat → Value), e ∉ ds → (putL a ds k x).eval (.tmp e) = a.eval (.tmp e)
  | [], _, _, _, _ => rfl
  | d :: ds, a, k, x, h => by
    simp only [putL]
    rw [putL_other ds _ _ _ (fun hm => h (List.mem_cons_of_mem _ hm)), put_other _ _ (fun he => h (by rw [he]; exact List.mem_cons_self))]
theorem putL_same : ∀ (ds : List Nat) (a : Act) (k : Nat) (x : Nat → Value), ds.Nodup → (∀ d ∈ ds, d < a.tmps.size) → ∀ i, i < ds.length → (putL a ds k x).eval (.tmp (ds.getD i 0)) = x (k + i)
  | [], _, _, _, _, _, i, hi => by simp at hi
  | d :: ds, a, k, x, hn, hs, i, hi => by
    simp only [putL]
    cases i with
    | zero =>
      simp only [List.getD_cons_zero, Nat.add_zero]
      rw [putL_other ds _ _ _ (List.nodup_cons.1 hn).1, put_same _ _ (hs d List.mem_cons_self)]
    | succ i =>
      simp only [List.getD_cons_succ]
      rw [putL_same ds _ _ _ (List.nodup_cons.1 hn).2 (fun e he => by rw [put_size]; exact hs e (List.mem_cons_of_mem _ he)) i (by simpa using hi), Nat.add_assoc, Nat.add_comm 1 i]
theorem putL_congr : ∀ (ds : List Nat) (a : Act) (k : Nat) (x y : Nat → Value), (∀ j, k ≤ j → x j = y j) → putL a ds k x = putL a ds k y
  | [], _, _, _, _, _ => rfl
  | d :: ds, a, k, x, y, h => by
    simp only [putL]
    rw [h k (Nat.le_refl _)]
    exact putL_congr ds _ _ _ _ fun j hj => h j (by omega)
theorem putL_comm {e : Nat} {v : Value} : ∀ (ds : List Nat) (a : Act) (k : Nat) (x : Nat → Value), e ∉ ds → (putL a ds k x).put (some e) v = putL (a.put (some e) v) ds k x
  | [], _, _, _, _ => rfl
  | d :: ds, a, k, x, h => by
    simp only [putL]
    rw [putL_comm ds _ _ _ (fun hm => h (List.mem_cons_of_mem _ hm)), put_comm _ _ _ (fun he => h (by rw [← he]; exact List.mem_cons_self))]
theorem putL_put {v : Value} : ∀ (ds : List Nat) (a : Act) (k : Nat) (x : Nat → Value), ds.Nodup → ∀ i, i < ds.length → (putL a ds k x).put (some (ds.getD i 0)) v = putL a ds k (updS x (k + i) v)
  | [], _, _, _, _, i, hi => by simp at hi
  | d :: ds, a, k, x, hn, i, hi => by
    simp only [putL]
    cases i with
    | zero =>
      simp only [List.getD_cons_zero, Nat.add_zero]
      rw [putL_comm ds _ _ _ (List.nodup_cons.1 hn).1, put_put]
      have e : updS x k v k = v := by simp [updS]
      rw [e]
      exact putL_congr ds _ _ _ _ fun j hj => by simp [updS, show ¬ j = k by omega]
    | succ i =>
      simp only [List.getD_cons_succ]
      rw [putL_put ds _ _ _ (List.nodup_cons.1 hn).2 i (by simpa using hi)]
      have e : updS x (k + (i + 1)) v k = x k := by simp [updS]
      rw [e, show k + 1 + i = k + (i + 1) by omega]
theorem putL_self : ∀ (ds : List Nat) (a : Act) (k : Nat) (x : Nat → Value), (∀ i, i < ds.length → x (k + i) = a.eval (.tmp (ds.getD i 0))) → putL a ds k x = a
  | [], _, _, _, _ => rfl
  | d :: ds, a, k, x, h => by
    simp only [putL]
    have e : a.put (some d) (x k) = a := by
      have := h 0 (by simp)
      simp only [List.getD_cons_zero, Nat.add_zero] at this
      rw [this]; exact put_self a d
    rw [e]
    exact putL_self ds a (k + 1) x fun i hi => by
      have := h (i + 1) (by simpa using hi)
      simp only [List.getD_cons_succ] at this
      rw [← this, Nat.add_assoc, Nat.add_comm 1 i]

/-- A REGION SLOT BY SLOT, THE FRAME KEPT CLOSED: of it each step knows the slots that are not written, and what S says of those that it waits for. -/
theorem wp_region_slotsA {P : Program} {ops : Array Oper} {Q : Exit → Act → World → Prop} {id : Nat} {a0 : Act} {V : World} (n N : Nat) (ds : List Nat) (S : Nat → Value → World → Prop)
    (hm : P.follows .mixedOrders = true) (hf : frontB .any ops = true) (hch : chainB .any ops n = true) (hn : n ≤ ops.size) (hl : ds.length = n) (hN : a0.tmps.size = N) (hnd : ds.Nodup) (hds : ∀ d ∈ ds, d < N)
    (mono : ∀ j v w w', S j v w → Below w.heap.size w w' → S j v w')
    (step : ∀ j, j < n → ∀ a w, Below V.heap.size V w → (∀ e, e ∉ ds → a.eval (.tmp e) = a0.eval (.tmp e)) → (∀ o, ops[j]? = some o → ∀ i, waits o i = true → S i (a.eval (.tmp (ds.getD i 0))) w) →
      wpOp P ops Q j (fun a' w' => ∃ v, a' = a.put (some (ds.getD j 0)) v ∧ S j v w' ∧ Below w.heap.size w w') a w)
    (rest : ∀ x w, Below V.heap.size V w → (∀ i, i < n → S i (x i) w) → wpList P ops Q (ops.toList.drop n) (putL a0 ds 0 x) w) : (Code.region id ops true).wp P Q a0 V := by
  have hds' : ∀ d ∈ ds, d < a0.tmps.size := by rw [hN]; exact hds
  refine wp_region_slots n (putL a0 ds 0) S hm hf hch hn mono (fun i => a0.eval (.tmp (ds.getD i 0))) (putL_self ds a0 0 _ fun i _ => by simp).symm ?_ rest
  intro j hj x w hB hdep
  refine wpOp_mono ?_ (step j hj (putL a0 ds 0 x) w hB (fun e he => putL_other ds a0 0 x he) fun o ho i hi => ?_)
  · rintro a' w' ⟨v, rfl, hS, hbl⟩
    refine ⟨v, ?_, hS, hbl⟩
    rw [putL_put ds a0 0 x hnd j (by omega), Nat.zero_add]
  · have hij : i < j := by
      unfold waits at hi
      rw [List.any_eq_true] at hi
      obtain ⟨e, he, hh⟩ := hi
      simp only [Bool.and_eq_true, beq_iff_eq] at hh
      rw [← hh.2]; exact frontB_spec hf j o ho e (by simpa using he) hh.1
    rw [putL_same ds a0 0 x hnd hds' i (by omega), Nat.zero_add]
    exact hdep o ho i hi
/-- What a guard's operation yielded. -/
theorem yieldedAt {ops : Array Oper} {a : Act} {k d : Nat} {o : Oper} {b : Bool} (ho : ops[k]? = some o) (hd : o.dst = some d) (hv : a.eval (.tmp d) = .bool b) : yielded ops a.tmps k = some b := by
  have h : a.tmps[d]? = some (.bool b) := by
    simp only [Act.eval, Array.getD_eq_getD_getElem?] at hv
    cases hq : a.tmps[d]? with
    | none => rw [hq] at hv; cases hv
    | some v => rw [hq] at hv; simp at hv; rw [hv]
  simp [yielded, ho, hd, h]
end Go.Proofs.Ytmfaapbhehhlpaa
