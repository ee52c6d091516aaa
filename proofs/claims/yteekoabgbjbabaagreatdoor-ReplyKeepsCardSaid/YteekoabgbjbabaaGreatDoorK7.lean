import Derived.Test.YteekoabgbjbabaaGreatDoorRows
import Derived.WalkKit
import Derived.WalkSpells
import Derived.Deep.WholeRow
import Derived.BigQuiet
import Derived.BigRegion
import Derived.Deep.QuietTactic
import Derived.Deep.RegionWith
namespace Go.Proofs.YteekoabgbjbabaaGreatDoor
open Go.RowKit

/-- Nobody waits for a later one. -/
def frontB (md : Region.Mode) (ops : Array Oper) : Bool :=
  (List.range ops.size).all fun j => match ops[j]? with | some o => o.after.all fun e => !Region.binds md e || decide (e.on < j) | none => false
/-- How many of the first k have not come up. -/
def cnt (listed : Array Bool) : Nat → Nat
  | 0 => 0
  | k + 1 => cnt listed k + (if listed.getD k true = false then 1 else 0)
theorem cnt_le (listed : Array Bool) (j : Nat) : ∀ k, cnt (listed.setIfInBounds j true) k ≤ cnt listed k
  | 0 => Nat.le_refl _
  | k + 1 => by
    have ih := cnt_le listed j k
    simp only [cnt]
    by_cases e : j = k
    · subst e
      have : ¬ (listed.setIfInBounds j true).getD j true = false := by
        by_cases h : j < listed.size <;> simp [h]
      rw [if_neg this]
      omega
    · rw [getD_set_ne true e]
      omega
theorem cnt_lt (listed : Array Bool) (j : Nat) (hj : listed.getD j true = false) : ∀ k, j < k → cnt (listed.setIfInBounds j true) k + 1 ≤ cnt listed k
  | 0, h => by omega
  | k + 1, h => by
    simp only [cnt]
    by_cases e : j = k
    · subst e
      have : ¬ (listed.setIfInBounds j true).getD j true = false := by
        by_cases h : j < listed.size <;> simp [h]
      rw [if_neg this, if_pos hj]
      have := cnt_le listed j j
      omega
    · rw [getD_set_ne true e]
      have := cnt_lt listed j hj k (by omega)
      omega
theorem cnt_zero (listed : Array Bool) : ∀ k, cnt listed k = 0 → ∀ j, j < k → listed.getD j true = true
  | 0, _, j, hj => by omega
  | k + 1, h, j, hj => by
    simp only [cnt] at h
    by_cases e : j = k
    · subst e
      cases hb : listed.getD j true with
      | true => rfl
      | false => rw [if_pos hb] at h; omega
    · exact cnt_zero listed k (by omega) j (by omega)
theorem cnt_bound (listed : Array Bool) : ∀ k, cnt listed k ≤ k
  | 0 => Nat.le_refl _
  | k + 1 => by
    have := cnt_bound listed k
    simp only [cnt]
    split <;> omega

section
variable {P : Program} {md : Region.Mode} {ops : Array Oper} {Q : Exit → Act → World → Prop}

theorem frontB_spec (h : frontB md ops = true) (j : Nat) (o : Oper) (hj : ops[j]? = some o) (e : _) (he : e ∈ o.after) (hb : Region.binds md e = true) : e.on < j := by
  have hlt : j < ops.size := (Array.getElem?_eq_some_iff.1 hj).1
  have h4 := (List.all_eq_true.1 h) j (List.mem_range.2 hlt)
  rw [hj] at h4
  simp only at h4
  have h5 := (Array.all_eq_true_iff_forall_mem.1 h4) e he
  simpa [hb] using h5
theorem all_of_ready (hf : frontB md ops = true) {listed : Array Bool} (hs : listed.size = ops.size) (hnil : Region.ready md ops listed = []) : ∀ j, j < ops.size → listed.getD j true = true := by
  intro j
  induction j using Nat.strongRecOn with
  | ind j ih =>
    intro hj
    cases hb : listed.getD j true with
    | true => rfl
    | false =>
      have : j ∈ Region.ready md ops listed := mem_ready.2 ⟨hb, ops[j], by simp [hj], fun e he hbd => by
        have hlt := frontB_spec hf j _ (by simp [hj]) e he hbd
        have h1 := ih e.on hlt (by omega)
        have hl : e.on < listed.size := by omega
        simp [hl] at h1 ⊢
        exact h1⟩
      rw [hnil] at this
      cases this

/-- A REGION IN WHATEVER ORDER, BY AN INVARIANT. -/
theorem wpAny_inv (I : Array Bool → Act → World → Prop) (hf : frontB md ops = true) (hsize : ∀ listed a w, I listed a w → listed.size = ops.size)
    (hstep : ∀ listed a w, I listed a w → ∀ j o, ops[j]? = some o → listed.getD j true = false → (∀ e ∈ o.after, Region.binds md e = true → listed.getD e.on false = true) → wpOp P ops Q j (fun a' w' => I (listed.setIfInBounds j true) a' w') a w)
    (hend : ∀ listed a w, I listed a w → (∀ j, j < ops.size → listed.getD j true = true) → Q .normal a w) :
    ∀ (fuel : Nat) (listed : Array Bool) (a : Act) (w : World), cnt listed ops.size ≤ fuel → I listed a w → wpAny P md ops Q fuel listed a w := by
  intro fuel
  induction fuel with
  | zero =>
    intro listed a w hc hI
    have hall := cnt_zero listed ops.size (by omega)
    refine ⟨?_, hend _ _ _ hI hall⟩
    apply List.eq_nil_iff_forall_not_mem.2
    intro j hj
    obtain ⟨h1, o, ho, _⟩ := mem_ready.1 hj
    rw [hall j (Array.getElem?_eq_some_iff.1 ho).1] at h1
    cases h1
  | succ fuel ih =>
    intro listed a w hc hI
    refine ⟨fun hnil => hend _ _ _ hI (all_of_ready hf (hsize _ _ _ hI) hnil), fun j hj => ?_⟩
    obtain ⟨h1, o, ho, hw⟩ := mem_ready.1 hj
    refine wpOp_mono (fun a' w' hI' => ih _ a' w' ?_ hI') (hstep listed a w hI j o ho h1 hw)
    have := cnt_lt listed j h1 ops.size (Array.getElem?_eq_some_iff.1 ho).1
    omega
theorem wp_region_inv {id : Nat} {a : Act} {w : World} (I : Array Bool → Act → World → Prop) (hm : P.follows .mixedOrders = true) (hf : frontB .any ops = true) (h0 : I (Array.replicate ops.size false) a w.drew)
    (hsize : ∀ listed a w, I listed a w → listed.size = ops.size)
    (hstep : ∀ listed a w, I listed a w → ∀ j o, ops[j]? = some o → listed.getD j true = false → (∀ e ∈ o.after, Region.binds .any e = true → listed.getD e.on false = true) → wpOp P ops Q j (fun a' w' => I (listed.setIfInBounds j true) a' w') a w)
    (hend : ∀ listed a w, I listed a w → (∀ j, j < ops.size → listed.getD j true = true) → Q .normal a w) : (Code.region id ops true).wp P Q a w :=
  wp_region_any hm (wpAny_inv I hf hsize hstep hend _ _ _ _ (cnt_bound _ _) h0)
end
end Go.Proofs.YteekoabgbjbabaaGreatDoor

namespace Go.Proofs.YteekoabgbjbabaaGreatDoor
open Go.RowKit

/-- Does j wait for i, by one edge or by many? -/
def covers (md : Region.Mode) (ops : Array Oper) : Nat → Nat → Nat → Bool
  | 0, _, _ => false
  | fuel + 1, j, i => match ops[j]? with
    | some o => o.after.any fun e => Region.binds md e && (e.on == i || covers md ops fuel e.on i)
    | none => false
/-- From n on each one waits for all ahead of it. -/
def chainB (md : Region.Mode) (ops : Array Oper) (n : Nat) : Bool :=
  (List.range ops.size).all fun j => decide (j < n) || ((List.range j).all fun i => covers md ops ops.size j i)
/-- What has come up has come behind what it waits for. -/
def DC (md : Region.Mode) (ops : Array Oper) (listed : Array Bool) : Prop :=
  ∀ (j : Nat) (o : Oper), ops[j]? = some o → listed.getD j false = true → ∀ e ∈ o.after, Region.binds md e = true → listed.getD e.on false = true
theorem covers_spec {md : Region.Mode} {ops : Array Oper} {listed : Array Bool} (hd : DC md ops listed) : ∀ (fuel j i : Nat) (o : Oper), ops[j]? = some o →
    (∀ e ∈ o.after, Region.binds md e = true → listed.getD e.on false = true) → covers md ops fuel j i = true → listed.getD i false = true
  | 0, _, _, _, _, _, h => by simp [covers] at h
  | fuel + 1, j, i, o, ho, hw, h => by
    simp only [covers, ho] at h
    rw [Array.any_eq_true] at h
    obtain ⟨k, hk, hh⟩ := h
    simp only [Bool.and_eq_true, Bool.or_eq_true, beq_iff_eq] at hh
    have hmem : o.after[k] ∈ o.after := by simp
    have hl := hw _ hmem hh.1
    rcases hh.2 with e | e
    · rw [← e]; exact hl
    · cases hq : ops[(o.after[k]).on]? with
      | none =>
        cases fuel with
        | zero => simp [covers] at e
        | succ f => simp [covers, hq] at e
      | some o2 => exact covers_spec hd fuel _ i o2 hq (fun e2 he2 hb2 => hd _ o2 hq hl e2 he2 hb2) e
theorem chainB_spec {md : Region.Mode} {ops : Array Oper} {n : Nat} (h : chainB md ops n = true) {j i : Nat} (hj : j < ops.size) (hn : n ≤ j) (hi : i < j) : covers md ops ops.size j i = true := by
  have h1 := (List.all_eq_true.1 h) j (List.mem_range.2 hj)
  simp only [Bool.or_eq_true, decide_eq_true_eq] at h1
  rcases h1 with h1 | h1
  · omega
  · exact (List.all_eq_true.1 h1) i (List.mem_range.2 hi)

def updS (x : Nat → Value) (j : Nat) (v : Value) : Nat → Value := fun i => if i = j then v else x i
/-- j waits for i, straight. -/
def waits (o : Oper) (i : Nat) : Bool := o.after.toList.any fun e => Region.binds .any e && e.on == i

/-- A REGION IN WHATEVER ORDER, SLOT BY SLOT: what each of the first n yields keeps S, which later ones leave; the rest come one behind the other. -/
theorem wp_region_slots {P : Program} {ops : Array Oper} {Q : Exit → Act → World → Prop} {id : Nat} {a0 : Act} {V : World} (n : Nat) (fr : (Nat → Value) → Act) (S : Nat → Value → World → Prop)
    (hm : P.follows .mixedOrders = true) (hf : frontB .any ops = true) (hch : chainB .any ops n = true) (hn : n ≤ ops.size)
    (mono : ∀ j v w w', S j v w → Below w.heap.size w w' → S j v w')
    (x0 : Nat → Value) (h0 : a0 = fr x0)
    (step : ∀ j, j < n → ∀ x w, Below V.heap.size V w → (∀ o, ops[j]? = some o → ∀ i, waits o i = true → S i (x i) w) → wpOp P ops Q j (fun a' w' => ∃ v, a' = fr (updS x j v) ∧ S j v w' ∧ Below w.heap.size w w') (fr x) w)
    (rest : ∀ x w, Below V.heap.size V w → (∀ i, i < n → S i (x i) w) → wpList P ops Q (ops.toList.drop n) (fr x) w) : (Code.region id ops true).wp P Q a0 V := by
  subst h0
  have fin : ∀ (listed : Array Bool) (j : Nat), j < listed.size → (listed.getD j true = listed.getD j false) := by
    intro l j hj; simp [hj]
  refine wp_region_inv (fun listed a w => listed.size = ops.size ∧ DC .any ops listed ∧
    ((∃ x, a = fr x ∧ Below V.heap.size V w ∧ (∀ j, j < n → listed.getD j false = true → S j (x j) w) ∧ (∀ j, n ≤ j → j < ops.size → listed.getD j false = false)) ∨
     (∃ k, n ≤ k ∧ k ≤ ops.size ∧ (∀ j, j < ops.size → (listed.getD j false = true ↔ j < k)) ∧ wpList P ops Q (ops.toList.drop k) a w))) hm hf ?_ (fun _ _ _ h => h.1) ?_ ?_
  · refine ⟨by simp, ?_, Or.inl ⟨x0, rfl, (Below.refl _ _).drew, ?_, ?_⟩⟩
    · intro j o ho hl
      have hj : j < ops.size := (Array.getElem?_eq_some_iff.1 ho).1
      simp [hj] at hl
    · intro j hj hl
      have hj' : j < ops.size := by omega
      simp [hj'] at hl
    · intro j _ hj
      simp [hj]
  · rintro listed a w ⟨hs, hdc, hI⟩ j o ho hun hdep
    have hj : j < ops.size := (Array.getElem?_eq_some_iff.1 ho).1
    have hun' : listed.getD j false = false := by rw [← fin listed j (by omega)]; exact hun
    have hdc' : DC .any ops (listed.setIfInBounds j true) := by
      intro i oi hoi hl e he hb
      by_cases eij : i = j
      · subst eij
        rw [ho] at hoi
        cases hoi
        have := hdep e he hb
        by_cases ee : i = e.on
        · rw [← ee]; simp [hs, hj]
        · rw [getD_set_ne false ee]; exact this
      · rw [getD_set_ne false (fun x => eij x.symm)] at hl
        have := hdc i oi hoi hl e he hb
        by_cases ee : j = e.on
        · rw [← ee]; simp [hs, hj]
        · rw [getD_set_ne false ee]; exact this
    -- one of the chain comes up: all ahead of it have
    have chain : ∀ k, n ≤ k → k ≤ ops.size → (∀ i, i < ops.size → (listed.getD i false = true ↔ i < k)) → wpList P ops Q (ops.toList.drop k) a w → n ≤ j →
        wpOp P ops Q j (fun a' w' => (listed.setIfInBounds j true).size = ops.size ∧ DC .any ops (listed.setIfInBounds j true) ∧
          ((∃ x, a' = fr x ∧ Below V.heap.size V w' ∧ (∀ i, i < n → (listed.setIfInBounds j true).getD i false = true → S i (x i) w') ∧ (∀ i, n ≤ i → i < ops.size → (listed.setIfInBounds j true).getD i false = false)) ∨
           (∃ k, n ≤ k ∧ k ≤ ops.size ∧ (∀ i, i < ops.size → ((listed.setIfInBounds j true).getD i false = true ↔ i < k)) ∧ wpList P ops Q (ops.toList.drop k) a' w'))) a w := by
      intro k hk1 hk2 hk3 hk4 hnj
      have hjk : j = k := by
        rcases Nat.lt_trichotomy j k with h | h | h
        · have := (hk3 j hj).2 h; rw [this] at hun'; cases hun'
        · exact h
        · have := covers_spec hdc _ j k o ho hdep (chainB_spec hch hj hnj h)
          have := (hk3 k (by omega)).1 this
          omega
      subst hjk
      have hd : ops.toList.drop j = o :: ops.toList.drop (j + 1) := by
        have hlt : j < ops.toList.length := by simpa using hj
        rw [List.drop_eq_getElem_cons hlt]
        have : ops.toList[j] = o := by
          have := (Array.getElem?_eq_some_iff.1 ho).2
          simpa using this
        rw [this]
      rw [hd] at hk4
      have hop : wpOp P ops Q j (wpList P ops Q (ops.toList.drop (j + 1))) a w := by
        unfold wpOp
        rw [ho]
        simp only [wpList] at hk4
        exact hk4
      refine wpOp_mono (fun a' w' h => ⟨by simpa using hs, hdc', Or.inr ⟨j + 1, by omega, by omega, ?_, h⟩⟩) hop
      intro i hi
      by_cases e : j = i
      · subst e; simp [hs, hj]
      · rw [getD_set_ne false e, hk3 i hi]; omega
    rcases hI with ⟨x, rfl, hB, hS, hno⟩ | ⟨k, hk1, hk2, hk3, hk4⟩
    · by_cases hjn : j < n
      · refine wpOp_mono ?_ (step j hjn x w hB (fun o' ho' i hi => ?_))
        · rintro a' w' ⟨v, rfl, hSj, hbl⟩
          refine ⟨by simpa using hs, hdc', Or.inl ⟨updS x j v, rfl, hB.trans (hbl.mono hB.size), ?_, ?_⟩⟩
          · intro i hi hl
            unfold updS
            by_cases e : i = j
            · subst e; rw [if_pos rfl]; exact hSj
            · rw [if_neg e]
              rw [getD_set_ne false (fun y => e y.symm)] at hl
              exact mono _ _ _ _ (hS i hi hl) hbl
          · intro i hi1 hi2
            rw [getD_set_ne false (by omega)]
            exact hno i hi1 hi2
        · rw [ho] at ho'
          cases ho'
          unfold waits at hi
          rw [List.any_eq_true] at hi
          obtain ⟨e, he, hh⟩ := hi
          simp only [Bool.and_eq_true, beq_iff_eq] at hh
          have hl := hdep e (by simpa using he) hh.1
          rw [hh.2] at hl
          have hij : i < j := by rw [← hh.2]; exact frontB_spec hf j o ho e (by simpa using he) hh.1
          exact hS i (by omega) hl
      · have hall : ∀ i, i < j → listed.getD i false = true := fun i hi => covers_spec hdc _ j i o ho hdep (chainB_spec hch hj (by omega) hi)
        have hjn' : j = n := by
          rcases Nat.lt_trichotomy j n with h | h | h
          · omega
          · exact h
          · have := hall n h
            rw [hno n (Nat.le_refl _) (by omega)] at this
            cases this
        subst hjn'
        refine chain j (Nat.le_refl _) (by omega) (fun i hi => ⟨fun h => ?_, fun h => hall i h⟩) (rest x w hB fun i hi => hS i hi (hall i hi)) (Nat.le_refl _)
        rcases Nat.lt_or_ge i j with h' | h'
        · exact h'
        · rw [hno i h' hi] at h; cases h
    · by_cases hjn : n ≤ j
      · exact chain k hk1 hk2 hk3 hk4 hjn
      · have := (hk3 j hj).2 (by omega)
        rw [this] at hun'
        cases hun'
  · rintro listed a w ⟨hs, hdc, hI⟩ hall
    have hall' : ∀ j, j < ops.size → listed.getD j false = true := fun j hj => by rw [← fin listed j (by omega)]; exact hall j hj
    rcases hI with ⟨x, rfl, hB, hS, hno⟩ | ⟨k, hk1, hk2, hk3, hk4⟩
    · have hns : n = ops.size := by
        rcases Nat.lt_or_ge n ops.size with h | h
        · have := hall' n h
          rw [hno n (Nat.le_refl _) h] at this
          cases this
        · omega
      have := rest x w hB fun i hi => hS i hi (hall' i (by omega))
      rw [hns, List.drop_of_length_le (by simp)] at this
      simpa only [wpList] using this
    · have hks : k = ops.size := by
        rcases Nat.lt_or_ge k ops.size with h | h
        · have := (hk3 k h).1 (hall' k h); omega
        · omega
      rw [hks, List.drop_of_length_le (by simp)] at hk4
      simpa only [wpList] using hk4

/-- The slots ds filled. -/
def putL (a : Act) : List Nat → Nat → (Nat → Value) → Act
  | [], _, _ => a
  | d :: ds, j, x => putL (a.put (some d) (x j)) ds (j + 1) x
/-- The same, the frame read off the goal: the first n fill the slots ds. -/
theorem wp_region_slotsL {P : Program} {ops : Array Oper} {Q : Exit → Act → World → Prop} {id : Nat} {a0 : Act} {V : World} (n : Nat) (ds : List Nat) (S : Nat → Value → World → Prop)
    (hm : P.follows .mixedOrders = true) (hf : frontB .any ops = true) (hch : chainB .any ops n = true) (hn : n ≤ ops.size)
    (mono : ∀ j v w w', S j v w → Below w.heap.size w w' → S j v w') (h0 : a0 = putL a0 ds 0 (fun j => a0.tmps.getD (ds.getD j 0) undef))
    (step : ∀ j, j < n → ∀ x w, Below V.heap.size V w → (∀ o, ops[j]? = some o → ∀ i, waits o i = true → S i (x i) w) → wpOp P ops Q j (fun a' w' => ∃ v, a' = putL a0 ds 0 (updS x j v) ∧ S j v w' ∧ Below w.heap.size w w') (putL a0 ds 0 x) w)
    (rest : ∀ x w, Below V.heap.size V w → (∀ i, i < n → S i (x i) w) → wpList P ops Q (ops.toList.drop n) (putL a0 ds 0 x) w) : (Code.region id ops true).wp P Q a0 V :=
  wp_region_slots n (putL a0 ds 0) S hm hf hch hn mono _ h0 step rest

section
variable {P : Program} {ops : Array Oper} {Q : Exit → Act → World → Prop} {j : Nat} {o : Oper} {a : Act} {w : World} {K : Act → World → Prop}
theorem stepV {v : Value} {w' : World} (ho : ops[j]? = some o) (hw : Region.wanted o (yielded ops a.tmps) = true) (hv : (execOp a.eval o).run P w = .ok (.value v) w') (hK : K (a.put o.dst v) w') : wpOp P ops Q j K a w := by
  unfold wpOp
  rw [ho]
  simp only [hw, if_true]
  left
  unfold Oper.wp
  rw [hv]
  exact hK
theorem stepC {f : FuncId} {args : Array Value} {post : Ending → World → Prop} (ho : ops[j]? = some o) (hw : Region.wanted o (yielded ops a.tmps) = true) (hv : (execOp a.eval o).run P w = .ok (.enter f args) w)
    (hc : Calls P f args w post) (hK : ∀ e w', post e w' → ∃ v, e = .returned v ∧ K (a.put o.dst v) w') : wpOp P ops Q j K a w := by
  unfold wpOp
  rw [ho]
  simp only [hw, if_true]
  left
  unfold Oper.wp
  rw [hv]
  exact hc.mono fun e w' he => by
    obtain ⟨v, rfl, hk⟩ := hK e w' he
    exact hk
theorem execMove {x : Operand} (ho : o.op = .move x) : (execOp a.eval o).run P w = .ok (.value (a.eval x)) w := by
  unfold execOp
  simp only [ho]
  rfl
theorem execCall {f : FuncId} {xs : Array Operand} {ts : Array TypeId} {fn : Func} (ho : o.op = .call { callee := .value (.func f), args := xs, argTypes := ts }) (hf : P.funcs[f]? = some fn) (hname : (fn.name == "runtime.NumGoroutine") = false) (hb : fn.body.isSome = true) : (execOp a.eval o).run P w = .ok (.enter f (xs.map a.eval)) w := by
  have h1 : fn.name ≠ "runtime.NumGoroutine" := by simpa using hname
  obtain ⟨c, hc⟩ := Option.isSome_iff_exists.1 hb
  have h2 : ∀ args, (callFunc f args).run P w = .ok (.enter f args) w := by intro args; simp [callFunc, hf, h1, hc]
  unfold execOp
  simp only [ho]
  simp [go_sem, h2]
theorem execCall0 {f : FuncId} {ts : Array TypeId} {fn : Func} (hf : P.funcs[f]? = some fn) (hname : (fn.name == "runtime.NumGoroutine") = false) (hb : fn.body.isSome = true) (ho : o.op = .call { callee := .value (.func f), args := #[], argTypes := ts }) : (execOp a.eval o).run P w = .ok (.enter f #[]) w := by
  have h := execCall (a := a) (w := w) ho hf hname hb
  simpa using h
theorem execCall1 {f : FuncId} {ts : Array TypeId} {fn : Func} {x : Operand} {vx : Value} (hf : P.funcs[f]? = some fn) (hname : (fn.name == "runtime.NumGoroutine") = false) (hb : fn.body.isSome = true) (ho : o.op = .call { callee := .value (.func f), args := #[x], argTypes := ts }) (hx : a.eval x = vx) : (execOp a.eval o).run P w = .ok (.enter f #[vx]) w := by
  have h := execCall (a := a) (w := w) ho hf hname hb
  simpa [hx] using h
theorem execCall2 {f : FuncId} {ts : Array TypeId} {fn : Func} {x y : Operand} {vx vy : Value} (hf : P.funcs[f]? = some fn) (hname : (fn.name == "runtime.NumGoroutine") = false) (hb : fn.body.isSome = true) (ho : o.op = .call { callee := .value (.func f), args := #[x, y], argTypes := ts }) (hx : a.eval x = vx) (hy : a.eval y = vy) : (execOp a.eval o).run P w = .ok (.enter f #[vx, vy]) w := by
  have h := execCall (a := a) (w := w) ho hf hname hb
  simpa [hx, hy] using h
theorem execSlice {ty : TypeId} {x : Operand} {v r : Value} (ho : o.op = .slice ty x none none none) (hx : a.eval x = v) (hr : (Instr.sliceAt ty v none none none).run P w = .ok r w) : (execOp a.eval o).run P w = .ok (.value r) w := by
  unfold execOp
  simp only [ho, hx, Option.map_none, Sem.run_bind, hr, Result.andThen_ok, Sem.run_pure]
theorem wantedOf {tmps : Array Value} {k : Nat} {b : Bool} (hg : o.guard = some (k, b)) (hy : yielded ops tmps k = some b) : Region.wanted o (yielded ops tmps) = true := by
  simp [Region.wanted, hg, hy]
theorem execLoadRow {ty : TypeId} {d : TypeDesc} {x : Operand} {g : Nat} {c : Array Value} {t : TypeId} {fr : Nat × Nat} (ho : o.op = .load ty x) (hx : a.eval x = .pointer (some ⟨g, 0, none⟩)) (hg : w.heap[g]? = some (.cells c t fr)) (hu : P.underlying ty = some d) (hd : (match d with | .struct _ | .array _ _ => true | _ => false) = true) (hi : (P.info? ty).map (·.size) = some c.size) : (execOp a.eval o).run P w = .ok (.value (.agg c)) w := by
  unfold execOp
  simp only [ho, hx, Instr.loadAt, Instr.sureAddr, Sem.run_bind, Sem.run_pure, Result.andThen_ok, run_loadVar_row w g t ty c fr _ hg hu hd hi]
end
end Go.Proofs.YteekoabgbjbabaaGreatDoor

namespace Go.Proofs.YteekoabgbjbabaaGreatDoor
open Go.RowKit

theorem put_size (a : Act) (d : Option Nat) (v : Value) : (a.put d v).tmps.size = a.tmps.size := by cases d <;> simp [Act.put]
theorem put_other (a : Act) {d e : Nat} (v : Value) (h : d ≠ e) : (a.put (some d) v).eval (.tmp e) = a.eval (.tmp e) := by
  simp only [Act.put, Act.eval, Array.getD_eq_getD_getElem?, Array.getElem?_setIfInBounds]
  rw [if_neg h]
theorem put_same (a : Act) {d : Nat} (v : Value) (h : d < a.tmps.size) : (a.put (some d) v).eval (.tmp d) = v := by
  simp [Act.put, Act.eval, h]
theorem put_put (a : Act) (d : Nat) (u v : Value) : (a.put (some d) u).put (some d) v = a.put (some d) v := by
  simp [Act.put]
theorem put_comm (a : Act) {d e : Nat} (u v : Value) (h : d ≠ e) : (a.put (some d) u).put (some e) v = (a.put (some e) v).put (some d) u := by
  simp only [Act.put]
  rw [Array.setIfInBounds_comm _ _ h]
theorem put_self (a : Act) (d : Nat) : a.put (some d) (a.eval (.tmp d)) = a := by
  simp only [Act.put, Act.eval]
  have e : a.tmps.setIfInBounds d (a.tmps.getD d undef) = a.tmps := by
    apply Array.ext_getElem?
    intro i
    rw [Array.getElem?_setIfInBounds]
    by_cases h : d = i
    · subst h
      by_cases h2 : d < a.tmps.size
      · simp [h2]
      · simp [h2]
    · rw [if_neg h]
  rw [e]
theorem putL_other {e : Nat} : ∀ (ds : List Nat) (a : Act) (k : Nat) (x : Nat → Value), e ∉ ds → (putL a ds k x).eval (.tmp e) = a.eval (.tmp e)
  | [], _, _, _, _ => rfl
  | d :: ds, a, k, x, h => by
    simp only [putL]
    rw [putL_other ds _ _ _ (fun hm => h (List.mem_cons_of_mem _ hm)), put_other _ _ (fun he => h (by rw [he]; exact List.mem_cons_self))]
theorem putL_same : ∀ (ds : List Nat) (a : Act) (k : Nat) (x : Nat → Value), ds.Nodup → (∀ d ∈ ds, d < a.tmps.size) → ∀ i, i < ds.length → (putL a ds k x).eval (.tmp (ds.getD i 0)) = x (k + i)
  | [], _, _, _, _, _, i, hi => by simp at hi
  | d :: ds, a, k, x, hn, hs, i, hi => by
    simp only [putL]
    cases i with
    | zero =>
      simp only [List.getD_cons_zero, Nat.add_zero]
      rw [putL_other ds _ _ _ (List.nodup_cons.1 hn).1, put_same _ _ (hs d List.mem_cons_self)]
    | succ i =>
      simp only [List.getD_cons_succ]
      rw [putL_same ds _ _ _ (List.nodup_cons.1 hn).2 (fun e he => by rw [put_size]; exact hs e (List.mem_cons_of_mem _ he)) i (by simpa using hi), Nat.add_assoc, Nat.add_comm 1 i]
theorem putL_congr : ∀ (ds : List Nat) (a : Act) (k : Nat) (x y : Nat → Value), (∀ j, k ≤ j → x j = y j) → putL a ds k x = putL a ds k y
  | [], _, _, _, _, _ => rfl
  | d :: ds, a, k, x, y, h => by
    simp only [putL]
    rw [h k (Nat.le_refl _)]
    exact putL_congr ds _ _ _ _ fun j hj => h j (by omega)
theorem putL_comm {e : Nat} {v : Value} : ∀ (ds : List Nat) (a : Act) (k : Nat) (x : Nat → Value), e ∉ ds → (putL a ds k x).put (some e) v = putL (a.put (some e) v) ds k x
  | [], _, _, _, _ => rfl
  | d :: ds, a, k, x, h => by
    simp only [putL]
    rw [putL_comm ds _ _ _ (fun hm => h (List.mem_cons_of_mem _ hm)), put_comm _ _ _ (fun he => h (by rw [← he]; exact List.mem_cons_self))]
theorem putL_put {v : Value} : ∀ (ds : List Nat) (a : Act) (k : Nat) (x : Nat → Value), ds.Nodup → ∀ i, i < ds.length → (putL a ds k x).put (some (ds.getD i 0)) v = putL a ds k (updS x (k + i) v)
  | [], _, _, _, _, i, hi => by simp at hi
  | d :: ds, a, k, x, hn, i, hi => by
    simp only [putL]
    cases i with
    | zero =>
      simp only [List.getD_cons_zero, Nat.add_zero]
      rw [putL_comm ds _ _ _ (List.nodup_cons.1 hn).1, put_put]
      have e : updS x k v k = v := by simp [updS]
      rw [e]
      exact putL_congr ds _ _ _ _ fun j hj => by simp [updS, show ¬ j = k by omega]
    | succ i =>
      simp only [List.getD_cons_succ]
      rw [putL_put ds _ _ _ (List.nodup_cons.1 hn).2 i (by simpa using hi)]
      have e : updS x (k + (i + 1)) v k = x k := by simp [updS]
      rw [e, show k + 1 + i = k + (i + 1) by omega]
theorem putL_self : ∀ (ds : List Nat) (a : Act) (k : Nat) (x : Nat → Value), (∀ i, i < ds.length → x (k + i) = a.eval (.tmp (ds.getD i 0))) → putL a ds k x = a
  | [], _, _, _, _ => rfl
  | d :: ds, a, k, x, h => by
    simp only [putL]
    have e : a.put (some d) (x k) = a := by
      have := h 0 (by simp)
      simp only [List.getD_cons_zero, Nat.add_zero] at this
      rw [this]; exact put_self a d
    rw [e]
    exact putL_self ds a (k + 1) x fun i hi => by
      have := h (i + 1) (by simpa using hi)
      simp only [List.getD_cons_succ] at this
      rw [← this, Nat.add_assoc, Nat.add_comm 1 i]

/-- A REGION SLOT BY SLOT, THE FRAME KEPT CLOSED: of it each step knows the slots that are not written, and what S says of those that it waits for. -/
theorem wp_region_slotsA {P : Program} {ops : Array Oper} {Q : Exit → Act → World → Prop} {id : Nat} {a0 : Act} {V : World} (n N : Nat) (ds : List Nat) (S : Nat → Value → World → Prop)
    (hm : P.follows .mixedOrders = true) (hf : frontB .any ops = true) (hch : chainB .any ops n = true) (hn : n ≤ ops.size) (hl : ds.length = n) (hN : a0.tmps.size = N) (hnd : ds.Nodup) (hds : ∀ d ∈ ds, d < N)
    (mono : ∀ j v w w', S j v w → Below w.heap.size w w' → S j v w')
    (step : ∀ j, j < n → ∀ a w, Below V.heap.size V w → (∀ e, e ∉ ds → a.eval (.tmp e) = a0.eval (.tmp e)) → (∀ o, ops[j]? = some o → ∀ i, waits o i = true → S i (a.eval (.tmp (ds.getD i 0))) w) →
      wpOp P ops Q j (fun a' w' => ∃ v, a' = a.put (some (ds.getD j 0)) v ∧ S j v w' ∧ Below w.heap.size w w') a w)
    (rest : ∀ x w, Below V.heap.size V w → (∀ i, i < n → S i (x i) w) → wpList P ops Q (ops.toList.drop n) (putL a0 ds 0 x) w) : (Code.region id ops true).wp P Q a0 V := by
  have hds' : ∀ d ∈ ds, d < a0.tmps.size := by rw [hN]; exact hds
  refine wp_region_slots n (putL a0 ds 0) S hm hf hch hn mono (fun i => a0.eval (.tmp (ds.getD i 0))) (putL_self ds a0 0 _ fun i _ => by simp).symm ?_ rest
  intro j hj x w hB hdep
  refine wpOp_mono ?_ (step j hj (putL a0 ds 0 x) w hB (fun e he => putL_other ds a0 0 x he) fun o ho i hi => ?_)
  · rintro a' w' ⟨v, rfl, hS, hbl⟩
    refine ⟨v, ?_, hS, hbl⟩
    rw [putL_put ds a0 0 x hnd j (by omega), Nat.zero_add]
  · have hij : i < j := by
      unfold waits at hi
      rw [List.any_eq_true] at hi
      obtain ⟨e, he, hh⟩ := hi
      simp only [Bool.and_eq_true, beq_iff_eq] at hh
      rw [← hh.2]; exact frontB_spec hf j o ho e (by simpa using he) hh.1
    rw [putL_same ds a0 0 x hnd hds' i (by omega), Nat.zero_add]
    exact hdep o ho i hi
/-- What a guard's operation yielded. -/
theorem yieldedAt {ops : Array Oper} {a : Act} {k d : Nat} {o : Oper} {b : Bool} (ho : ops[k]? = some o) (hd : o.dst = some d) (hv : a.eval (.tmp d) = .bool b) : yielded ops a.tmps k = some b := by
  have h : a.tmps[d]? = some (.bool b) := by
    simp only [Act.eval, Array.getD_eq_getD_getElem?] at hv
    cases hq : a.tmps[d]? with
    | none => rw [hq] at hv; cases hv
    | some v => rw [hq] at hv; simp at hv; rw [hv]
  simp [yielded, ho, hd, h]
end Go.Proofs.YteekoabgbjbabaaGreatDoor

namespace Go.Proofs.YteekoabgbjbabaaGreatDoor
open Go.RowKit

/-- The operations that fill a slot, and the slot. -/
def dsOf (ops : Array Oper) : List (Nat × Nat) := (List.range ops.size).filterMap fun j => (ops[j]?.bind (·.dst)).map fun d => (j, d)
theorem mem_dsOf {ops : Array Oper} {j d : Nat} : (j, d) ∈ dsOf ops ↔ ∃ o, ops[j]? = some o ∧ o.dst = some d := by
  unfold dsOf
  rw [List.mem_filterMap]
  constructor
  · rintro ⟨i, _, h⟩
    cases ho : ops[i]? with
    | none => rw [ho] at h; simp at h
    | some o =>
      rw [ho] at h
      simp only [Option.bind_some, Option.map_eq_some_iff, Prod.mk.injEq] at h
      obtain ⟨d', hd, rfl, rfl⟩ := h
      exact ⟨o, ho, hd⟩
  · rintro ⟨o, ho, hd⟩
    exact ⟨j, List.mem_range.2 (Array.getElem?_eq_some_iff.1 ho).1, by rw [ho]; simp [hd]⟩
def putP (a : Act) (vals : Nat → Value) : List (Nat × Nat) → Act
  | [] => a
  | p :: ds => putP (a.put (some p.2) (vals p.1)) vals ds
def updB (l : Nat → Bool) (j : Nat) : Nat → Bool := fun i => if i = j then true else l i
theorem putP_size (vals : Nat → Value) : ∀ (ds : List (Nat × Nat)) (a : Act), (putP a vals ds).tmps.size = a.tmps.size
  | [], _ => rfl
  | p :: ds, a => by simp only [putP]; rw [putP_size vals ds, put_size]
theorem putP_defers (vals : Nat → Value) : ∀ (ds : List (Nat × Nat)) (a : Act), (putP a vals ds).defers = a.defers
  | [], _ => rfl
  | p :: ds, a => by simp only [putP]; rw [putP_defers vals ds]; rfl
theorem putP_other (vals : Nat → Value) {e : Nat} : ∀ (ds : List (Nat × Nat)) (a : Act), e ∉ ds.map (·.2) → (putP a vals ds).eval (.tmp e) = a.eval (.tmp e)
  | [], _, _ => rfl
  | p :: ds, a, h => by
    simp only [List.map_cons, List.mem_cons, not_or] at h
    simp only [putP]
    rw [putP_other vals ds _ h.2, put_other _ _ (fun q => h.1 q.symm)]
theorem putP_same (vals : Nat → Value) : ∀ (ds : List (Nat × Nat)) (a : Act), (ds.map (·.2)).Nodup → (∀ p ∈ ds, p.2 < a.tmps.size) → ∀ p, p ∈ ds → (putP a vals ds).eval (.tmp p.2) = vals p.1
  | [], _, _, _, p, hp => by simp at hp
  | q :: ds, a, hn, hs, p, hp => by
    simp only [List.map_cons, List.nodup_cons] at hn
    simp only [putP]
    rcases List.mem_cons.1 hp with rfl | hp
    · rw [putP_other vals ds _ hn.1, put_same _ _ (hs p List.mem_cons_self)]
    · exact putP_same vals ds _ hn.2 (fun r hr => by rw [put_size]; exact hs r (List.mem_cons_of_mem _ hr)) p hp
theorem act_ext {a b : Act} (hs : a.tmps.size = b.tmps.size) (hd : a.defers = b.defers) (h : ∀ e, a.eval (.tmp e) = b.eval (.tmp e)) : a = b := by
  obtain ⟨at', ad⟩ := a
  obtain ⟨bt, bd⟩ := b
  simp only at hs hd
  subst hd
  congr 1
  apply Array.ext hs
  intro i h1 h2
  have := h i
  simp only [Act.eval, Array.getD_eq_getD_getElem?, Array.getElem?_eq_getElem h1, Array.getElem?_eq_getElem h2, Option.getD_some] at this
  exact this

theorem inj2 : ∀ (L : List (Nat × Nat)), (L.map (·.2)).Nodup → ∀ x y z, (x, z) ∈ L → (y, z) ∈ L → x = y := by
  intro L
  induction L with
  | nil => intro _ x y z hx; simp at hx
  | cons p L ih =>
    intro hn x y z hx hy
    simp only [List.map_cons, List.nodup_cons] at hn
    rcases List.mem_cons.1 hx with h1 | h1 <;> rcases List.mem_cons.1 hy with h2 | h2
    · exact congrArg Prod.fst (h1.trans h2.symm)
    · subst h1; exact absurd (List.mem_map.2 ⟨(y, z), h2, rfl⟩) hn.1
    · subst h2; exact absurd (List.mem_map.2 ⟨(x, z), h1, rfl⟩) hn.1
    · exact ih hn.2 x y z h1 h2
/-- A REGION IN WHATEVER ORDER, WHERE EACH OPERATION YIELDS ONE KNOWN VALUE: the world by what has come up. -/
theorem wp_region_det {P : Program} {ops : Array Oper} {Q : Exit → Act → World → Prop} {id : Nat} {a0 : Act} {V : World} (N : Nat) (ds : List (Nat × Nat)) (vals : Nat → Value) (T : (Nat → Bool) → World → Prop)
    (hm : P.follows .mixedOrders = true) (hf : frontB .any ops = true) (hN : a0.tmps.size = N) (hD : dsOf ops = ds) (hnd : (ds.map (·.2)).Nodup) (hds : ds.all (fun p => decide (p.2 < N)) = true)
    (h0 : T (fun _ => false) V.drew)
    (step : ∀ j, j < ops.size → ∀ l a w, l j = false → (∀ e, e ∉ ds.map (·.2) → a.eval (.tmp e) = a0.eval (.tmp e)) → (∀ o, ops[j]? = some o → ∀ i, waits o i = true → ∀ q, ops[i]? = some q → ∀ d, q.dst = some d → a.eval (.tmp d) = vals i) →
      (∀ o, ops[j]? = some o → ∀ i, waits o i = true → l i = true) → (∀ i q, ops[i]? = some q → l i = true → ∀ m, waits q m = true → l m = true) → (∀ i q, ops[i]? = some q → ∀ d, q.dst = some d → l i = false → a.eval (.tmp d) = a0.eval (.tmp d)) → T l w → wpOp P ops Q j (fun a' w' => (∃ o, ops[j]? = some o ∧ a' = a.put o.dst (vals j)) ∧ T (updB l j) w') a w)
    (fin : ∀ l w, (∀ j, j < ops.size → l j = true) → T l w → Q .normal (putP a0 vals ds) w) : (Code.region id ops true).wp P Q a0 V := by
  subst hD
  have hds' : ∀ p ∈ dsOf ops, p.2 < N := fun p hp => by simpa using List.all_eq_true.1 hds p hp
  refine wp_region_inv (fun listed a w => listed.size = ops.size ∧ DC .any ops listed ∧ a.tmps.size = N ∧ a.defers = a0.defers ∧ (∀ e, e ∉ (dsOf ops).map (·.2) → a.eval (.tmp e) = a0.eval (.tmp e)) ∧
    (∀ p, p ∈ dsOf ops → listed.getD p.1 false = true → a.eval (.tmp p.2) = vals p.1) ∧ (∀ p, p ∈ dsOf ops → listed.getD p.1 false = false → a.eval (.tmp p.2) = a0.eval (.tmp p.2)) ∧ T (fun i => listed.getD i false) w) hm hf ?_ (fun _ _ _ h => h.1) ?_ ?_
  · refine ⟨by simp, ?_, hN, rfl, fun _ _ => rfl, ?_, fun _ _ _ => rfl, ?_⟩
    · intro j o ho hl
      have hj : j < ops.size := (Array.getElem?_eq_some_iff.1 ho).1
      simp [hj] at hl
    · rintro ⟨j, d⟩ hp hl
      obtain ⟨o, ho, _⟩ := mem_dsOf.1 hp
      have hj : j < ops.size := (Array.getElem?_eq_some_iff.1 ho).1
      simp [hj] at hl
    · have e : (fun i => (Array.replicate ops.size false).getD i false) = fun _ => false := by
        funext i
        by_cases hi : i < ops.size <;> simp [hi]
      rw [e]
      exact h0
  · rintro listed a w ⟨hs, hdc, ha, had, hfr, hv, hno, hT⟩ j o ho hun hdep
    have hj : j < ops.size := (Array.getElem?_eq_some_iff.1 ho).1
    have hun' : listed.getD j false = false := by
      have hl : j < listed.size := by omega
      simp [hl] at hun ⊢
      exact hun
    have hdc' : DC .any ops (listed.setIfInBounds j true) := by
      intro i oi hoi hl e he hb
      by_cases eij : i = j
      · subst eij
        rw [ho] at hoi
        cases hoi
        have := hdep e he hb
        by_cases ee : i = e.on
        · rw [← ee]; simp [hs, hj]
        · rw [getD_set_ne false ee]; exact this
      · rw [getD_set_ne false (fun x => eij x.symm)] at hl
        have := hdc i oi hoi hl e he hb
        by_cases ee : j = e.on
        · rw [← ee]; simp [hs, hj]
        · rw [getD_set_ne false ee]; exact this
    have hcl : ∀ i q, ops[i]? = some q → listed.getD i false = true → ∀ m, waits q m = true → listed.getD m false = true := by
      intro i q hq hli m hm
      unfold waits at hm
      rw [List.any_eq_true] at hm
      obtain ⟨e, he, hh⟩ := hm
      simp only [Bool.and_eq_true, beq_iff_eq] at hh
      rw [← hh.2]
      exact hdc i q hq hli e (by simpa using he) hh.1
    have hw : ∀ i, waits o i = true → listed.getD i false = true := by
      intro i hi
      unfold waits at hi
      rw [List.any_eq_true] at hi
      obtain ⟨e, he, hh⟩ := hi
      simp only [Bool.and_eq_true, beq_iff_eq] at hh
      rw [← hh.2]
      exact hdep e (by simpa using he) hh.1
    refine wpOp_mono ?_ (step j hj _ a w hun' hfr (fun o' ho' i hi q hq d hd => hv (i, d) (mem_dsOf.2 ⟨q, hq, hd⟩) (hw i (by rw [ho] at ho'; cases ho'; exact hi))) (fun o' ho' i hi => hw i (by rw [ho] at ho'; cases ho'; exact hi)) hcl (fun i q hq d hd hli => hno (i, d) (mem_dsOf.2 ⟨q, hq, hd⟩) hli) hT)
    rintro a' w' ⟨⟨o', ho', rfl⟩, hT'⟩
    rw [ho] at ho'
    cases ho'
    refine ⟨by simpa using hs, hdc', by rw [put_size]; exact ha, ?_, ?_, ?_, ?_, ?_⟩
    · rw [← had]; cases o.dst <;> rfl
    · intro e he
      cases hd : o.dst with
      | none => exact hfr e he
      | some d =>
        rw [put_other _ _ (fun q => he (by rw [← q]; exact List.mem_map.2 ⟨(j, d), mem_dsOf.2 ⟨o, ho, hd⟩, rfl⟩))]
        exact hfr e he
    · rintro ⟨i, d⟩ hp hl
      by_cases e : i = j
      · subst e
        obtain ⟨o', ho', hd⟩ := mem_dsOf.1 hp
        rw [ho] at ho'
        cases ho'
        rw [hd, put_same _ _ (by rw [ha]; exact hds' _ hp)]
      · rw [getD_set_ne false (fun y => e y.symm)] at hl
        have hq := hv (i, d) hp hl
        cases hd : o.dst with
        | none => exact hq
        | some d' =>
          have hne : d' ≠ d := by
            intro q
            subst q
            have hp2 : (j, d') ∈ dsOf ops := mem_dsOf.2 ⟨o, ho, hd⟩
            exact e (inj2 _ hnd i j d' hp hp2)
          rw [put_other _ _ hne]
          exact hq
    · rintro ⟨i, d⟩ hp hl
      have e : i ≠ j := by
        intro e
        subst e
        have hli : i < listed.size := by omega
        simp [hli] at hl
      rw [getD_set_ne false (fun y => e y.symm)] at hl
      have hq := hno (i, d) hp hl
      cases hd : o.dst with
      | none => exact hq
      | some d' =>
        have hne : d' ≠ d := by
          intro q
          subst q
          have hp2 : (j, d') ∈ dsOf ops := mem_dsOf.2 ⟨o, ho, hd⟩
          exact e (inj2 _ hnd i j d' hp hp2)
        rw [put_other _ _ hne]
        exact hq
    · have e : (fun i => (listed.setIfInBounds j true).getD i false) = updB (fun i => listed.getD i false) j := by
        funext i
        unfold updB
        by_cases hij : i = j
        · subst hij
          rw [if_pos rfl]
          have hl : i < listed.size := by omega
          simp [hl]
        · rw [if_neg hij, getD_set_ne false (fun y => hij y.symm)]
      rw [e]
      exact hT'
  · rintro listed a w ⟨hs, _, ha, had, hfr, hv, _, hT⟩ hall
    have hall' : ∀ j, j < ops.size → listed.getD j false = true := fun j hj => by
      have hl : j < listed.size := by omega
      have := hall j hj
      simp [hl] at this ⊢
      exact this
    have ea : a = putP a0 vals (dsOf ops) := by
      refine act_ext (by rw [putP_size, ha, hN]) (by rw [putP_defers, had]) fun e => ?_
      by_cases he : e ∈ (dsOf ops).map (·.2)
      · obtain ⟨p, hp, rfl⟩ := List.mem_map.1 he
        obtain ⟨o, ho, _⟩ := mem_dsOf.1 (show (p.1, p.2) ∈ dsOf ops from hp)
        rw [hv p hp (hall' _ (Array.getElem?_eq_some_iff.1 ho).1), putP_same vals _ a0 hnd (fun q hq => by rw [hN]; exact hds' q hq) p hp]
      · rw [hfr e he, putP_other vals _ _ he]
    rw [ea]
    exact fin _ w hall' hT
theorem stepS {P : Program} {ops : Array Oper} {Q : Exit → Act → World → Prop} {j : Nat} {o : Oper} {a : Act} {w w' : World} {K : Act → World → Prop} (ho : ops[j]? = some o) (hw : Region.wanted o (yielded ops a.tmps) = true) (hv : (execOp a.eval o).run P w = .ok .skip w') (hK : K (a.put o.dst undef) w') : wpOp P ops Q j K a w := by
  unfold wpOp
  rw [ho]
  simp only [hw, if_true]
  left
  unfold Oper.wp
  rw [hv]
  exact hK
end Go.Proofs.YteekoabgbjbabaaGreatDoor
