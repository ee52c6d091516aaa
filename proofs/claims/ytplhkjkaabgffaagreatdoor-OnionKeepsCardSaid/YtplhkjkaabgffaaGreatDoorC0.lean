import Derived.Test.YtplhkjkaabgffaaGreatDoorB1
namespace Go.Proofs.YtplhkjkaabgffaaGreatDoor
open Go.RowKit

/-- The edges go to the front: nobody waits for a later one; the last one waits for all. -/
def tailB (md : Region.Mode) (ops : Array Oper) (n : Nat) : Bool :=
  ops.size == n + 1 &&
  ((List.range (n + 1)).all fun j => match ops[j]? with | some o => o.after.all fun e => !Region.binds md e || decide (e.on < j) | none => false) &&
  (match ops[n]? with | some o => (List.range n).all fun j => o.after.any fun e => Region.binds md e && e.on == j | none => false)

section
variable {P : Program} {md : Region.Mode} {ops : Array Oper} {C : World → Prop} {Q1 : Act → Prop} {Q : Exit → Act → World → Prop} {n : Nat}

theorem tailB_spec (h : tailB md ops n = true) : ops.size = n + 1 ∧ (∀ j o, ops[j]? = some o → ∀ e ∈ o.after, Region.binds md e = true → e.on < j) ∧ (∃ o, ops[n]? = some o ∧ ∀ j, j < n → ∃ e ∈ o.after, Region.binds md e = true ∧ e.on = j) := by
  unfold tailB at h
  simp only [Bool.and_eq_true] at h
  obtain ⟨⟨h1, h2⟩, h3⟩ := h
  have hsz : ops.size = n + 1 := by simpa using h1
  refine ⟨hsz, ?_, ?_⟩
  · intro j o hj e he hb
    have hjn : j < n + 1 := by have := (Array.getElem?_eq_some_iff.1 hj).1; omega
    have h4 := (List.all_eq_true.1 h2) j (List.mem_range.2 hjn)
    rw [hj] at h4
    simp only at h4
    have h5 := (Array.all_eq_true_iff_forall_mem.1 h4) e he
    simpa [hb] using h5
  · cases ho : ops[n]? with
    | none => rw [ho] at h3; cases h3
    | some o =>
      refine ⟨o, rfl, fun j hj => ?_⟩
      rw [ho] at h3
      simp only at h3
      have h4 := (List.all_eq_true.1 h3) j (List.mem_range.2 hj)
      rw [Array.any_eq_true] at h4
      obtain ⟨k, hk, hh⟩ := h4
      simp only [Bool.and_eq_true, beq_iff_eq] at hh
      exact ⟨o.after[k], by simp, hh.1, hh.2⟩

/-- AN OPERATION THAT COMES LAST, behind a quiet region. -/
theorem wpAny_tail (ht : tailB md ops n = true) (hlast : ∀ a w, C w → Q1 a → wpOp P ops Q n (fun a' w' => Q .normal a' w') a w) :
    ∀ (fuel : Nat) (listed : Array Bool) (a : Act) (w : World), listed.size = n + 1 → listed.getD n true = false → C w →
      wpAnyQ P md ops C Q1 fuel (listed.setIfInBounds n true) a → wpAny P md ops Q (fuel + 1) listed a w := by
  obtain ⟨hsz, hfront, o, ho, hall⟩ := tailB_spec ht
  -- the last is ready only if all others have come up
  have hn_ready : ∀ listed : Array Bool, n ∈ Region.ready md ops listed → Region.ready md ops (listed.setIfInBounds n true) = [] := by
    intro listed hn
    obtain ⟨_, o', ho', hw⟩ := mem_ready.1 hn
    rw [ho] at ho'
    cases ho'
    apply List.eq_nil_iff_forall_not_mem.2
    intro j hj
    obtain ⟨h1, oj, hoj, _⟩ := mem_ready.1 hj
    have hjn : j < n + 1 := by have := (Array.getElem?_eq_some_iff.1 hoj).1; omega
    by_cases e : j = n
    · subst e
      by_cases hl : j < listed.size
      · simp [hl] at h1
      · simp [hl] at h1
    · obtain ⟨ed, he1, he2, he3⟩ := hall j (by omega)
      have h2 := hw ed he1 he2
      rw [he3] at h2
      rw [getD_set_ne true (fun x => e x.symm)] at h1
      rcases Nat.lt_or_ge j listed.size with h' | h'
      · simp [h'] at h1 h2; rw [h1] at h2; cases h2
      · simp [Array.getElem?_eq_none h'] at h2
  -- something may always come up
  have hsome : ∀ listed : Array Bool, listed.size = n + 1 → listed.getD n true = false → Region.ready md ops listed ≠ [] := by
    intro listed hls hln hnil
    have key : ∀ j, j < n + 1 → listed.getD j true = true := by
      intro j
      induction j using Nat.strongRecOn with
      | ind j ih =>
        intro hj
        cases hb : listed.getD j true with
        | true => rfl
        | false =>
          have : j ∈ Region.ready md ops listed := mem_ready.2 ⟨hb, ops[j]'(by omega), by simp [show j < ops.size by omega], fun e he hbd => by
            have hlt := hfront j _ (by simp [show j < ops.size by omega]) e he hbd
            have := ih e.on hlt (by omega)
            have hl : e.on < listed.size := by omega
            simp [hl] at this ⊢
            exact this⟩
          rw [hnil] at this
          cases this
    rw [key n (by omega)] at hln
    cases hln
  intro fuel
  induction fuel with
  | zero =>
    intro listed a w hls hln hC h
    refine ⟨fun h0 => absurd h0 (hsome listed hls hln), fun j hj => ?_⟩
    by_cases e : j = n
    · subst e
      exact wpOp_mono (fun a' w' hq => wpAny_done (hn_ready listed hj) hq 0) (hlast a w hC h.2)
    · have := ready_mono hj e
      rw [h.1] at this
      cases this
  | succ fuel ih =>
    intro listed a w hls hln hC h
    refine ⟨fun h0 => absurd h0 (hsome listed hls hln), fun j hj => ?_⟩
    by_cases e : j = n
    · subst e
      exact wpOp_mono (fun a' w' hq => wpAny_done (hn_ready listed hj) hq _) (hlast a w hC (h.1 (hn_ready listed hj)))
    · have h1 := h.2 j (ready_mono hj e)
      refine wpOp_of_qOp hC (fun a' w' hC' h2 => ?_) h1
      rw [Array.setIfInBounds_comm _ _ (fun x => e x.symm)] at h2
      exact ih (listed.setIfInBounds j true) a' w' (by simpa using hls) (by rw [getD_set_ne true e]; exact hln) hC' h2

/-- The prefix's lexical walk. -/
def lexPart (md : Region.Mode) (ops : Array Oper) : Nat → Nat → Array Bool → Bool
  | 0, _, listed => (Region.ready md ops listed).isEmpty
  | fuel + 1, k, listed => (Region.ready md ops listed).contains k && Region.free md ops listed k && lexPart md ops fuel (k + 1) (listed.setIfInBounds k true)
theorem wpAnyQ_part (hs : Region.noSelect ops = true) : ∀ (l : List Oper) (k : Nat) (listed : Array Bool) (a : Act), (∀ j, j < l.length → l[j]? = ops[k + j]?) →
    lexPart md ops l.length k listed = true → wpQuiet P ops C Q1 l a → wpAnyQ P md ops C Q1 l.length listed a
  | [], _, _, _, _, hB, h => ⟨by simpa [lexPart] using hB, h⟩
  | o :: l, k, listed, a, hl, hB, h => by
    have h0 : ops[k]? = some o := by simpa using (hl 0 (by simp)).symm
    simp only [List.length_cons, lexPart, Bool.and_eq_true] at hB
    obtain ⟨⟨hr, hf⟩, hB'⟩ := hB
    have hst : qOp P ops C k (wpQuiet P ops C Q1 l) a := by unfold qOp; simp only [h0]; exact h
    obtain ⟨v, hy, hK⟩ := yieldsIn_of_qOp h0 hst
    exact wpAnyQ_first h0 (Region.noSelect_spec hs) l.length listed a (Region.free_spec h0 hf) (by simpa using hr) hy
      (wpAnyQ_part hs l (k + 1) _ _ (fun j hj => by have := hl (j + 1) (by simpa using hj); simpa [Nat.add_assoc, Nat.add_comm 1 j] using this) hB' hK)

/-- A REGION THAT DRAWS ITS ORDER: quiet but for its last operation, which waits for all others. -/
theorem wp_region_tail {id : Nat} {a : Act} {w V : World} {B : Nat} {l : List Oper} (n : Nat) (hm : P.follows .mixedOrders = true) (hs : Region.noSelect l.toArray = true)
    (ht : tailB .any l.toArray n = true) (hB : lexPart .any l.toArray (l.take n).length 0 ((Array.replicate (n + 1) false).setIfInBounds n true) = true) (h0 : CB B V w)
    (h : wpQuiet P l.toArray (CB B V) (fun a' => ∀ w', CB B V w' → wpList P l.toArray Q (l.drop n) a' w') (l.take n) a) : (Code.region id l.toArray true).wp P Q a w := by
  have hsz := (tailB_spec ht).1
  have hlen : l.length = n + 1 := by simpa using hsz
  refine wp_region_any hm ?_
  rw [hsz]
  have hq := wpAnyQ_part hs (l.take n) 0 _ a (fun j hj => by
    have hj' : j < n := by simp at hj; omega
    simp [hj']) hB h
  have htl : (l.take n).length = n := by simp; omega
  rw [htl] at hq
  have hdrop : l.drop n = [l[n]'(by omega)] := by
    rw [List.drop_eq_getElem_cons (by omega), List.drop_of_length_le (by omega)]
  have hop : ∀ (a : Act) (w : World), wpList P l.toArray Q (l.drop n) a w → wpOp P l.toArray Q n (fun a'' w'' => Q .normal a'' w'') a w := by
    intro a w hw
    rw [hdrop] at hw
    unfold wpOp
    have e : l.toArray[n]? = some (l[n]'(by omega)) := by simp [hlen]
    rw [e]
    simp only [wpList] at hw
    exact hw
  exact wpAny_tail ht (fun a w hC hq => hop _ _ (hq w hC)) n (Array.replicate (n + 1) false) a _ (by simp) (by simp) ⟨h0.os, h0.tape, h0.output, h0.size, h0.block⟩ hq
theorem wpOp_plain {o : Oper} {a : Act} {w : World} {K : Act → World → Prop} (ho : ops[n]? = some o) (hg : o.guard = none) (h : o.wp P a w K Q) : wpOp P ops Q n K a w := by
  unfold wpOp
  rw [ho]
  simp only [Region.wanted, hg, if_true]
  exact .inl h
theorem wpQuiet_val {op : Oper} {rest : List Oper} {a : Act} (hw : Region.wanted op (yielded ops a.tmps) = true) (v : Value) (hv : ∀ w, C w → (execOp a.eval op).run P w = .ok (.value v) w)
    (h : wpQuiet P ops C Q1 rest (a.put op.dst v)) : wpQuiet P ops C Q1 (op :: rest) a := by
  unfold wpQuiet
  rw [if_pos hw]
  exact ⟨v, fun w hC => by unfold Oper.quietAt; rw [hv w hC]; exact ⟨rfl, rfl⟩, h⟩
end
end Go.Proofs.YtplhkjkaabgffaaGreatDoor
