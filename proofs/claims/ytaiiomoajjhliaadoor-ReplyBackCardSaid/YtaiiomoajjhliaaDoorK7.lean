import Derived.Test.YtaiiomoajjhliaaDoorK1
namespace Go.Proofs.YtaiiomoajjhliaaDoor
open Go.RowKit

theorem put_size (a : Act) (d : Option Nat) (v : Value) : (a.put d v).tmps.size = a.tmps.size := by cases d <;> simp [Act.put]
theorem put_other (a : Act) {d e : Nat} (v : Value) (h : d ≠ e) : (a.put (some d) v).eval (.tmp e) = a.eval (.tmp e) := by
  simp only [Act.put, Act.eval, Array.getD_eq_getD_getElem?, Array.getElem?_setIfInBounds]
  rw [if_neg h]
theorem put_same (a : Act) {d : Nat} (v : Value) (h : d < a.tmps.size) : (a.put (some d) v).eval (.tmp d) = v := by
  simp [Act.put, Act.eval, h]
theorem put_put (a : Act) (d : Nat) (u v : Value) : (a.put (some d) u).put (some d) v = a.put (some d) v := by
  simp [Act.put]
theorem put_comm (a : Act) {d e : Nat} (u v : Value) (h : d ≠ e) : (a.put (some d) u).put (some e) v = (a.put (some e) v).put (some d) u := by
  simp only [Act.put]
  rw [Array.setIfInBounds_comm _ _ h]
theorem put_self (a : Act) (d : Nat) : a.put (some d) (a.eval (.tmp d)) = a := by
  simp only [Act.put, Act.eval]
  have e : a.tmps.setIfInBounds d (a.tmps.getD d undef) = a.tmps := by
    apply Array.ext_getElem?
    intro i
    rw [Array.getElem?_setIfInBounds]
    by_cases h : d = i
    · subst h
      by_cases h2 : d < a.tmps.size
      · simp [h2]
      · simp [h2]
    · rw [if_neg h]
  rw [e]
theorem putL_other {e : Nat} : ∀ (ds : List Nat) (a : Act) (k : Nat) (x : Nat → Value), e ∉ ds → (putL a ds k x).eval (.tmp e) = a.eval (.tmp e)
  | [], _, _, _, _ => rfl
  | d :: ds, a, k, x, h => by
    simp only [putL]
    rw [putL_other ds _ _ _ (fun hm => h (List.mem_cons_of_mem _ hm)), put_other _ _ (fun he => h (by rw [he]; exact List.mem_cons_self))]
theorem putL_same : ∀ (ds : List Nat) (a : Act) (k : Nat) (x : Nat → Value), ds.Nodup → (∀ d ∈ ds, d < a.tmps.size) → ∀ i, i < ds.length → (putL a ds k x).eval (.tmp (ds.getD i 0)) = x (k + i)
  | [], _, _, _, _, _, i, hi => by simp at hi
  | d :: ds, a, k, x, hn, hs, i, hi => by
    simp only [putL]
    cases i with
    | zero =>
      simp only [List.getD_cons_zero, Nat.add_zero]
      rw [putL_other ds _ _ _ (List.nodup_cons.1 hn).1, put_same _ _ (hs d List.mem_cons_self)]
    | succ i =>
      simp only [List.getD_cons_succ]
      rw [putL_same ds _ _ _ (List.nodup_cons.1 hn).2 (fun e he => by rw [put_size]; exact hs e (List.mem_cons_of_mem _ he)) i (by simpa using hi), Nat.add_assoc, Nat.add_comm 1 i]
theorem putL_congr : ∀ (ds : List Nat) (a : Act) (k : Nat) (x y : Nat → Value), (∀ j, k ≤ j → x j = y j) → putL a ds k x = putL a ds k y
  | [], _, _, _, _, _ => rfl
  | d :: ds, a, k, x, y, h => by
    simp only [putL]
    rw [h k (Nat.le_refl _)]
    exact putL_congr ds _ _ _ _ fun j hj => h j (by omega)
theorem putL_comm {e : Nat} {v : Value} : ∀ (ds : List Nat) (a : Act) (k : Nat) (x : Nat → Value), e ∉ ds → (putL a ds k x).put (some e) v = putL (a.put (some e) v) ds k x
  | [], _, _, _, _ => rfl
  | d :: ds, a, k, x, h => by
    simp only [putL]
    rw [putL_comm ds _ _ _ (fun hm => h (List.mem_cons_of_mem _ hm)), put_comm _ _ _ (fun he => h (by rw [← he]; exact List.mem_cons_self))]
theorem putL_put {v : Value} : ∀ (ds : List Nat) (a : Act) (k : Nat) (x : Nat → Value), ds.Nodup → ∀ i, i < ds.length → (putL a ds k x).put (some (ds.getD i 0)) v = putL a ds k (updS x (k + i) v)
  | [], _, _, _, _, i, hi => by simp at hi
  | d :: ds, a, k, x, hn, i, hi => by
    simp only [putL]
    cases i with
    | zero =>
      simp only [List.getD_cons_zero, Nat.add_zero]
      rw [putL_comm ds _ _ _ (List.nodup_cons.1 hn).1, put_put]
      have e : updS x k v k = v := by simp [updS]
      rw [e]
      exact putL_congr ds _ _ _ _ fun j hj => by simp [updS, show ¬ j = k by omega]
    | succ i =>
      simp only [List.getD_cons_succ]
      rw [putL_put ds _ _ _ (List.nodup_cons.1 hn).2 i (by simpa using hi)]
      have e : updS x (k + (i + 1)) v k = x k := by simp [updS]
      rw [e, show k + 1 + i = k + (i + 1) by omega]
theorem putL_self : ∀ (ds : List Nat) (a : Act) (k : Nat) (x : Nat → Value), (∀ i, i < ds.length → x (k + i) = a.eval (.tmp (ds.getD i 0))) → putL a ds k x = a
  | [], _, _, _, _ => rfl
  | d :: ds, a, k, x, h => by
    simp only [putL]
    have e : a.put (some d) (x k) = a := by
      have := h 0 (by simp)
      simp only [List.getD_cons_zero, Nat.add_zero] at this
      rw [this]; exact put_self a d
    rw [e]
    exact putL_self ds a (k + 1) x fun i hi => by
      have := h (i + 1) (by simpa using hi)
      simp only [List.getD_cons_succ] at this
      rw [← this, Nat.add_assoc, Nat.add_comm 1 i]

/-- A REGION SLOT BY SLOT, THE FRAME KEPT CLOSED: of it each step knows the slots that are not written, and what S says of those that it waits for. -/
theorem wp_region_slotsA {P : Program} {ops : Array Oper} {Q : Exit → Act → World → Prop} {id : Nat} {a0 : Act} {V : World} (n N : Nat) (ds : List Nat) (S : Nat → Value → World → Prop)
    (hm : P.follows .mixedOrders = true) (hf : frontB .any ops = true) (hch : chainB .any ops n = true) (hn : n ≤ ops.size) (hl : ds.length = n) (hN : a0.tmps.size = N) (hnd : ds.Nodup) (hds : ∀ d ∈ ds, d < N)
    (mono : ∀ j v w w', S j v w → Below w.heap.size w w' → S j v w')
    (step : ∀ j, j < n → ∀ a w, Below V.heap.size V w → (∀ e, e ∉ ds → a.eval (.tmp e) = a0.eval (.tmp e)) → (∀ o, ops[j]? = some o → ∀ i, waits o i = true → S i (a.eval (.tmp (ds.getD i 0))) w) →
      wpOp P ops Q j (fun a' w' => ∃ v, a' = a.put (some (ds.getD j 0)) v ∧ S j v w' ∧ Below w.heap.size w w') a w)
    (rest : ∀ x w, Below V.heap.size V w → (∀ i, i < n → S i (x i) w) → wpList P ops Q (ops.toList.drop n) (putL a0 ds 0 x) w) : (Code.region id ops true).wp P Q a0 V := by
  have hds' : ∀ d ∈ ds, d < a0.tmps.size := by rw [hN]; exact hds
  refine wp_region_slots n (putL a0 ds 0) S hm hf hch hn mono (fun i => a0.eval (.tmp (ds.getD i 0))) (putL_self ds a0 0 _ fun i _ => by simp).symm ?_ rest
  intro j hj x w hB hdep
  refine wpOp_mono ?_ (step j hj (putL a0 ds 0 x) w hB (fun e he => putL_other ds a0 0 x he) fun o ho i hi => ?_)
  · rintro a' w' ⟨v, rfl, hS, hbl⟩
    refine ⟨v, ?_, hS, hbl⟩
    rw [putL_put ds a0 0 x hnd j (by omega), Nat.zero_add]
  · have hij : i < j := by
      unfold waits at hi
      rw [List.any_eq_true] at hi
      obtain ⟨e, he, hh⟩ := hi
      simp only [Bool.and_eq_true, beq_iff_eq] at hh
      rw [← hh.2]; exact frontB_spec hf j o ho e (by simpa using he) hh.1
    rw [putL_same ds a0 0 x hnd hds' i (by omega), Nat.zero_add]
    exact hdep o ho i hi
/-- What a guard's operation yielded. -/
theorem yieldedAt {ops : Array Oper} {a : Act} {k d : Nat} {o : Oper} {b : Bool} (ho : ops[k]? = some o) (hd : o.dst = some d) (hv : a.eval (.tmp d) = .bool b) : yielded ops a.tmps k = some b := by
  have h : a.tmps[d]? = some (.bool b) := by
    simp only [Act.eval, Array.getD_eq_getD_getElem?] at hv
    cases hq : a.tmps[d]? with
    | none => rw [hq] at hv; cases hv
    | some v => rw [hq] at hv; simp at hv; rw [hv]
  simp [yielded, ho, hd, h]
end Go.Proofs.YtaiiomoajjhliaaDoor

namespace Go.Proofs.YtaiiomoajjhliaaDoor
open Go.RowKit

/-- The operations that fill a slot, and the slot. -/
def dsOf (ops : Array Oper) : List (Nat × Nat) := (List.range ops.size).filterMap fun j => (ops[j]?.bind (·.dst)).map fun d => (j, d)
theorem mem_dsOf {ops : Array Oper} {j d : Nat} : (j, d) ∈ dsOf ops ↔ ∃ o, ops[j]? = some o ∧ o.dst = some d := by
  unfold dsOf
  rw [List.mem_filterMap]
  constructor
  · rintro ⟨i, _, h⟩
    cases ho : ops[i]? with
    | none => rw [ho] at h; simp at h
    | some o =>
      rw [ho] at h
      simp only [Option.bind_some, Option.map_eq_some_iff, Prod.mk.injEq] at h
      obtain ⟨d', hd, rfl, rfl⟩ := h
      exact ⟨o, ho, hd⟩
  · rintro ⟨o, ho, hd⟩
    exact ⟨j, List.mem_range.2 (Array.getElem?_eq_some_iff.1 ho).1, by rw [ho]; simp [hd]⟩
def putP (a : Act) (vals : Nat → Value) : List (Nat × Nat) → Act
  | [] => a
  | p :: ds => putP (a.put (some p.2) (vals p.1)) vals ds
def updB (l : Nat → Bool) (j : Nat) : Nat → Bool := fun i => if i = j then true else l i
theorem putP_size (vals : Nat → Value) : ∀ (ds : List (Nat × Nat)) (a : Act), (putP a vals ds).tmps.size = a.tmps.size
  | [], _ => rfl
  | p :: ds, a => by simp only [putP]; rw [putP_size vals ds, put_size]
theorem putP_defers (vals : Nat → Value) : ∀ (ds : List (Nat × Nat)) (a : Act), (putP a vals ds).defers = a.defers
  | [], _ => rfl
  | p :: ds, a => by simp only [putP]; rw [putP_defers vals ds]; rfl
theorem putP_other (vals : Nat → Value) {e : Nat} : ∀ (ds : List (Nat × Nat)) (a : Act), e ∉ ds.map (·.2) → (putP a vals ds).eval (.tmp e) = a.eval (.tmp e)
  | [], _, _ => rfl
  | p :: ds, a, h => by
    simp only [List.map_cons, List.mem_cons, not_or] at h
    simp only [putP]
    rw [putP_other vals ds _ h.2, put_other _ _ (fun q => h.1 q.symm)]
theorem putP_same (vals : Nat → Value) : ∀ (ds : List (Nat × Nat)) (a : Act), (ds.map (·.2)).Nodup → (∀ p ∈ ds, p.2 < a.tmps.size) → ∀ p, p ∈ ds → (putP a vals ds).eval (.tmp p.2) = vals p.1
  | [], _, _, _, p, hp => by simp at hp
  | q :: ds, a, hn, hs, p, hp => by
    simp only [List.map_cons, List.nodup_cons] at hn
    simp only [putP]
    rcases List.mem_cons.1 hp with rfl | hp
    · rw [putP_other vals ds _ hn.1, put_same _ _ (hs p List.mem_cons_self)]
    · exact putP_same vals ds _ hn.2 (fun r hr => by rw [put_size]; exact hs r (List.mem_cons_of_mem _ hr)) p hp
theorem act_ext {a b : Act} (hs : a.tmps.size = b.tmps.size) (hd : a.defers = b.defers) (h : ∀ e, a.eval (.tmp e) = b.eval (.tmp e)) : a = b := by
  obtain ⟨at', ad⟩ := a
  obtain ⟨bt, bd⟩ := b
  simp only at hs hd
  subst hd
  congr 1
  apply Array.ext hs
  intro i h1 h2
  have := h i
  simp only [Act.eval, Array.getD_eq_getD_getElem?, Array.getElem?_eq_getElem h1, Array.getElem?_eq_getElem h2, Option.getD_some] at this
  exact this

theorem inj2 : ∀ (L : List (Nat × Nat)), (L.map (·.2)).Nodup → ∀ x y z, (x, z) ∈ L → (y, z) ∈ L → x = y := by
  intro L
  induction L with
  | nil => intro _ x y z hx; simp at hx
  | cons p L ih =>
    intro hn x y z hx hy
    simp only [List.map_cons, List.nodup_cons] at hn
    rcases List.mem_cons.1 hx with h1 | h1 <;> rcases List.mem_cons.1 hy with h2 | h2
    · exact congrArg Prod.fst (h1.trans h2.symm)
    · subst h1; exact absurd (List.mem_map.2 ⟨(y, z), h2, rfl⟩) hn.1
    · subst h2; exact absurd (List.mem_map.2 ⟨(x, z), h1, rfl⟩) hn.1
    · exact ih hn.2 x y z h1 h2
/-- A REGION IN WHATEVER ORDER, WHERE EACH OPERATION YIELDS ONE KNOWN VALUE: the world by what has come up. -/
theorem wp_region_det {P : Program} {ops : Array Oper} {Q : Exit → Act → World → Prop} {id : Nat} {a0 : Act} {V : World} (N : Nat) (ds : List (Nat × Nat)) (vals : Nat → Value) (T : (Nat → Bool) → World → Prop)
    (hm : P.follows .mixedOrders = true) (hf : frontB .any ops = true) (hN : a0.tmps.size = N) (hD : dsOf ops = ds) (hnd : (ds.map (·.2)).Nodup) (hds : ds.all (fun p => decide (p.2 < N)) = true)
    (h0 : T (fun _ => false) V.drew)
    (step : ∀ j, j < ops.size → ∀ l a w, l j = false → (∀ e, e ∉ ds.map (·.2) → a.eval (.tmp e) = a0.eval (.tmp e)) → (∀ o, ops[j]? = some o → ∀ i, waits o i = true → ∀ q, ops[i]? = some q → ∀ d, q.dst = some d → a.eval (.tmp d) = vals i) →
      (∀ o, ops[j]? = some o → ∀ i, waits o i = true → l i = true) → (∀ i q, ops[i]? = some q → l i = true → ∀ m, waits q m = true → l m = true) → (∀ i q, ops[i]? = some q → ∀ d, q.dst = some d → l i = false → a.eval (.tmp d) = a0.eval (.tmp d)) → T l w → wpOp P ops Q j (fun a' w' => (∃ o, ops[j]? = some o ∧ a' = a.put o.dst (vals j)) ∧ T (updB l j) w') a w)
    (fin : ∀ l w, (∀ j, j < ops.size → l j = true) → T l w → Q .normal (putP a0 vals ds) w) : (Code.region id ops true).wp P Q a0 V := by
  subst hD
  have hds' : ∀ p ∈ dsOf ops, p.2 < N := fun p hp => by simpa using List.all_eq_true.1 hds p hp
  refine wp_region_inv (fun listed a w => listed.size = ops.size ∧ DC .any ops listed ∧ a.tmps.size = N ∧ a.defers = a0.defers ∧ (∀ e, e ∉ (dsOf ops).map (·.2) → a.eval (.tmp e) = a0.eval (.tmp e)) ∧
    (∀ p, p ∈ dsOf ops → listed.getD p.1 false = true → a.eval (.tmp p.2) = vals p.1) ∧ (∀ p, p ∈ dsOf ops → listed.getD p.1 false = false → a.eval (.tmp p.2) = a0.eval (.tmp p.2)) ∧ T (fun i => listed.getD i false) w) hm hf ?_ (fun _ _ _ h => h.1) ?_ ?_
  · refine ⟨by simp, ?_, hN, rfl, fun _ _ => rfl, ?_, fun _ _ _ => rfl, ?_⟩
    · intro j o ho hl
      have hj : j < ops.size := (Array.getElem?_eq_some_iff.1 ho).1
      simp [hj] at hl
    · rintro ⟨j, d⟩ hp hl
      obtain ⟨o, ho, _⟩ := mem_dsOf.1 hp
      have hj : j < ops.size := (Array.getElem?_eq_some_iff.1 ho).1
      simp [hj] at hl
    · have e : (fun i => (Array.replicate ops.size false).getD i false) = fun _ => false := by
        funext i
        by_cases hi : i < ops.size <;> simp [hi]
      rw [e]
      exact h0
  · rintro listed a w ⟨hs, hdc, ha, had, hfr, hv, hno, hT⟩ j o ho hun hdep
    have hj : j < ops.size := (Array.getElem?_eq_some_iff.1 ho).1
    have hun' : listed.getD j false = false := by
      have hl : j < listed.size := by omega
      simp [hl] at hun ⊢
      exact hun
    have hdc' : DC .any ops (listed.setIfInBounds j true) := by
      intro i oi hoi hl e he hb
      by_cases eij : i = j
      · subst eij
        rw [ho] at hoi
        cases hoi
        have := hdep e he hb
        by_cases ee : i = e.on
        · rw [← ee]; simp [hs, hj]
        · rw [getD_set_ne false ee]; exact this
      · rw [getD_set_ne false (fun x => eij x.symm)] at hl
        have := hdc i oi hoi hl e he hb
        by_cases ee : j = e.on
        · rw [← ee]; simp [hs, hj]
        · rw [getD_set_ne false ee]; exact this
    have hcl : ∀ i q, ops[i]? = some q → listed.getD i false = true → ∀ m, waits q m = true → listed.getD m false = true := by
      intro i q hq hli m hm
      unfold waits at hm
      rw [List.any_eq_true] at hm
      obtain ⟨e, he, hh⟩ := hm
      simp only [Bool.and_eq_true, beq_iff_eq] at hh
      rw [← hh.2]
      exact hdc i q hq hli e (by simpa using he) hh.1
    have hw : ∀ i, waits o i = true → listed.getD i false = true := by
      intro i hi
      unfold waits at hi
      rw [List.any_eq_true] at hi
      obtain ⟨e, he, hh⟩ := hi
      simp only [Bool.and_eq_true, beq_iff_eq] at hh
      rw [← hh.2]
      exact hdep e (by simpa using he) hh.1
    refine wpOp_mono ?_ (step j hj _ a w hun' hfr (fun o' ho' i hi q hq d hd => hv (i, d) (mem_dsOf.2 ⟨q, hq, hd⟩) (hw i (by rw [ho] at ho'; cases ho'; exact hi))) (fun o' ho' i hi => hw i (by rw [ho] at ho'; cases ho'; exact hi)) hcl (fun i q hq d hd hli => hno (i, d) (mem_dsOf.2 ⟨q, hq, hd⟩) hli) hT)
    rintro a' w' ⟨⟨o', ho', rfl⟩, hT'⟩
    rw [ho] at ho'
    cases ho'
    refine ⟨by simpa using hs, hdc', by rw [put_size]; exact ha, ?_, ?_, ?_, ?_, ?_⟩
    · rw [← had]; cases o.dst <;> rfl
    · intro e he
      cases hd : o.dst with
      | none => exact hfr e he
      | some d =>
        rw [put_other _ _ (fun q => he (by rw [← q]; exact List.mem_map.2 ⟨(j, d), mem_dsOf.2 ⟨o, ho, hd⟩, rfl⟩))]
        exact hfr e he
    · rintro ⟨i, d⟩ hp hl
      by_cases e : i = j
      · subst e
        obtain ⟨o', ho', hd⟩ := mem_dsOf.1 hp
        rw [ho] at ho'
        cases ho'
        rw [hd, put_same _ _ (by rw [ha]; exact hds' _ hp)]
      · rw [getD_set_ne false (fun y => e y.symm)] at hl
        have hq := hv (i, d) hp hl
        cases hd : o.dst with
        | none => exact hq
        | some d' =>
          have hne : d' ≠ d := by
            intro q
            subst q
            have hp2 : (j, d') ∈ dsOf ops := mem_dsOf.2 ⟨o, ho, hd⟩
            exact e (inj2 _ hnd i j d' hp hp2)
          rw [put_other _ _ hne]
          exact hq
    · rintro ⟨i, d⟩ hp hl
      have e : i ≠ j := by
        intro e
        subst e
        have hli : i < listed.size := by omega
        simp [hli] at hl
      rw [getD_set_ne false (fun y => e y.symm)] at hl
      have hq := hno (i, d) hp hl
      cases hd : o.dst with
      | none => exact hq
      | some d' =>
        have hne : d' ≠ d := by
          intro q
          subst q
          have hp2 : (j, d') ∈ dsOf ops := mem_dsOf.2 ⟨o, ho, hd⟩
          exact e (inj2 _ hnd i j d' hp hp2)
        rw [put_other _ _ hne]
        exact hq
    · have e : (fun i => (listed.setIfInBounds j true).getD i false) = updB (fun i => listed.getD i false) j := by
        funext i
        unfold updB
        by_cases hij : i = j
        · subst hij
          rw [if_pos rfl]
          have hl : i < listed.size := by omega
          simp [hl]
        · rw [if_neg hij, getD_set_ne false (fun y => hij y.symm)]
      rw [e]
      exact hT'
  · rintro listed a w ⟨hs, _, ha, had, hfr, hv, _, hT⟩ hall
    have hall' : ∀ j, j < ops.size → listed.getD j false = true := fun j hj => by
      have hl : j < listed.size := by omega
      have := hall j hj
      simp [hl] at this ⊢
      exact this
    have ea : a = putP a0 vals (dsOf ops) := by
      refine act_ext (by rw [putP_size, ha, hN]) (by rw [putP_defers, had]) fun e => ?_
      by_cases he : e ∈ (dsOf ops).map (·.2)
      · obtain ⟨p, hp, rfl⟩ := List.mem_map.1 he
        obtain ⟨o, ho, _⟩ := mem_dsOf.1 (show (p.1, p.2) ∈ dsOf ops from hp)
        rw [hv p hp (hall' _ (Array.getElem?_eq_some_iff.1 ho).1), putP_same vals _ a0 hnd (fun q hq => by rw [hN]; exact hds' q hq) p hp]
      · rw [hfr e he, putP_other vals _ _ he]
    rw [ea]
    exact fin _ w hall' hT
theorem stepS {P : Program} {ops : Array Oper} {Q : Exit → Act → World → Prop} {j : Nat} {o : Oper} {a : Act} {w w' : World} {K : Act → World → Prop} (ho : ops[j]? = some o) (hw : Region.wanted o (yielded ops a.tmps) = true) (hv : (execOp a.eval o).run P w = .ok .skip w') (hK : K (a.put o.dst undef) w') : wpOp P ops Q j K a w := by
  unfold wpOp
  rw [ho]
  simp only [hw, if_true]
  left
  unfold Oper.wp
  rw [hv]
  exact hK
end Go.Proofs.YtaiiomoajjhliaaDoor
